import PyProof.Rows.All
import Wide.All
import OpenK.AllK
import Wide.FinOn
import Lean
import PySem.Challenge.RW_coverfill_k31_leaves
set_option Elab.async false
set_option linter.all false
set_option maxRecDepth 100000
set_option maxHeartbeats 4000000
set_option compiler.extract_closed false
theorem zzf {p:Prop}(h:false=true):p:=nomatch h
theorem zzb (h:Nat.ble a b=true):a<=b:=Nat.le_of_ble_eq_true h
theorem zzg {U:Type _}{l:List U}{i:Nat}{a:U}(h:l[i]?=some a):∃ w:i<l.length,l[i]=a:=List.getElem?_eq_some_iff.mp h
noncomputable section
open Bool (and_eq_true)
open PySem.Heap (lt_size get?_push_of_some get?_push_size)
open Nat (le_refl le_trans ne_of_lt lt_irrefl zero_le lt_of_lt_of_le mul_le_mul_right sub_self)
open Option (map_eq_some_iff)
open Classical (choose_spec)
open Int (toNat_natCast fmod_nonneg_of_pos fmod_lt_of_pos)
open List (all_eq_true append_assoc append_nil cons_append drop_eq_getElem_cons drop_eq_nil_of_le ext_getElem? filter_cons flatten_cons forIn_cons forIn_nil getD_eq_getElem?_getD getElem?_append_left getElem?_append_right getElem?_eq_getElem getElem?_eq_none getElem?_range getElem?_replicate getElem?_set_ne getElem?_set_self length_append length_cons length_drop length_filter_le length_map length_nil length_range length_replicate length_set length_singleton length_take lookup_cons map_append map_congr_left map_cons map_id map_map map_nil mem_append mem_append_right mem_cons mem_cons_of_mem mem_cons_self mem_filter mem_map mem_of_getElem? mem_of_mem_take mem_range mem_singleton nil_append nodup_cons not_mem_nil of_mem_zip range_succ replicate_succ reverse_cons set_append_right size_toArray take_add_one take_length take_of_length_le take_zero)
def qx:=@Option.bind_some
def qy:=@length_map
def qj:=@decide_eq_true_eq
def qQ:=@length_append
def qX:=@PySem.wpAny_bind
def qY:=@Bool.false_ne_true
def qJ:=@mem_cons_of_mem
def q0:=@append_assoc
def q8:=@mem_cons_self
def q9:=@PySem.wpAny_pure
def xq:=@mem_append_right
def xy:=@size_toArray
def xj:=@Option.some.inj
def xQ:=@lt_of_lt_of_le
def xX:=@fmod_nonneg_of_pos
def xY:=@length_cons
def xJ:=@map_append
def x8:=@mem_of_mem_take
def x9:=@and_eq_true
def yq:=@map_eq_some_iff
section
namespace L2
open PySem Spec PyProof.Rows
abbrev Key:=Sum Int Str
def zSX:Key->Value->Bool
 | .inl k,v=>Value.isInt k v
 | .inr x,v=>Value.isStrOf x v
def keyH (w:World):Key->Int
 | .inl k=>hashInt k
 | .inr x=>hashStr w x
theorem zA2:∀ {k:Key} {v:Value},zSX k v=true->(∃ i t,k=Sum.inl i/\v=Value.int i t)\/(∃ x t,k=Sum.inr x/\v=Value.str x t)
 | .inl i,v,h=>by
  obtain⟨t,e⟩:=Value.isInt_shape (k:=i) (v:=v) h;exact .inl ⟨i,t,rfl,e⟩
 | .inr x,v,h=>by
  obtain⟨t,e⟩:=Value.isStrOf_shape (x:=x) (v:=v) h;exact .inr ⟨x,t,rfl,e⟩
theorem zSW (a b:Int):decide ((Sum.inl a:Key)=Sum.inl b)=(a==b):=by
 by_cases e:a=b
 .subst e;simp
 .have h:¬ (Sum.inl a:Key)=Sum.inl b:=λq=>e (Sum.inl.inj q)
  rw[decide_eq_false h];exact(beq_eq_false_iff_ne.mpr e).symm
theorem zST (a b:Str):decide ((Sum.inr a:Key)=Sum.inr b)=decide (a=b):=by
 by_cases e:a=b
 .subst e;simp
 .have h:¬ (Sum.inr a:Key)=Sum.inr b:=λq=>e (Sum.inr.inj q)
  rw[decide_eq_false h,decide_eq_false e]
theorem zSV (a:Int)(b:Str):decide ((Sum.inl a:Key)=Sum.inr b)=false:=decide_eq_false (λq=>nomatch q)
theorem zSU (a:Str)(b:Int):decide ((Sum.inr a:Key)=Sum.inl b)=false:=decide_eq_false (λq=>nomatch q)
def zKM (prog:Program)(w:World):PySem.KeyKind prog w Key where
 is:=zSX
 hash:=keyH w
 inj:=λv a b ha hb=>by
  rcases zA2 ha with ⟨i,t,rfl,rfl⟩ | ⟨x,t,rfl,rfl⟩
  .rcases zA2 hb with ⟨j,u,rfl,e⟩ | ⟨y,u,rfl,e⟩
   .injection e with e1 _;rw[e1]
   .exact nomatch e
  .rcases zA2 hb with ⟨j,u,rfl,e⟩ | ⟨y,u,rfl,e⟩
   .exact nomatch e
   .injection e with e1 _;rw[e1]
 byValue:=λk v h=>by
  rcases zA2 h with ⟨i,t,rfl,rfl⟩ | ⟨x,t,rfl,rfl⟩<;>rfl
 pyHash:=λhv h=>by
  rcases zA2 hv with ⟨i,t,rfl,rfl⟩ | ⟨x,t,rfl,rfl⟩
  .exact wpAny_pyHash_int h
  .exact wpAny_pyHash_str h
 eqBool:=λhu hv h=>by
  rcases zA2 hu with ⟨i,t,rfl,rfl⟩ | ⟨x,t,rfl,rfl⟩
  .rcases zA2 hv with ⟨j,u,rfl,rfl⟩ | ⟨y,u,rfl,rfl⟩
   .rw [zSW] at h;exact wpAny_eqBool_int h
   .rw [zSV] at h;exact SeqAt.EqAt.int_str i t y u _ _ _ _ h
  .rcases zA2 hv with ⟨j,u,rfl,rfl⟩ | ⟨y,u,rfl,rfl⟩
   .rw [zSU] at h;exact SeqAt.EqAt.str_int x t j u _ _ _ _ h
   .rw [zST] at h;exact wpAny_eqBool_str h
 «strs»:=λk x t v h=>by
  rcases zA2 h with ⟨i,u,rfl,e⟩ | ⟨y,u,rfl,e⟩
  .exact nomatch e
  .injection e with e1 _
   subst e1;cases v<;>rfl
end L2
namespace L2
open PySem Spec PyProof.Rows
inductive V where
 | non | bl (b:Bool) | int (i:Int) | str (x:Str) | byt (b:Array UInt8) | flt (b:UInt64) | ref (a:Addr) | ty (n:String)
 deriving DecidableEq
def RelV:V->Value->Prop
 | .non,u=>u=Value.none
 | .bl b,u=>u=Value.bool b
 | .int i,u=>∃ t,u=Value.int i t
 | .str x,u=>∃ t,u=Value.str x t
 | .byt b,u=>∃ t,u=Value.bytes b t
 | .flt b,u=>∃ t,u=Value.float b t
 | .ref a,u=>u=Value.ref a
 | .ty n,u=>u=Value.type n
abbrev Vals:List V->List Value->Prop:=Paired RelV
theorem Vals.length (r:Vals xs us):xs.length=us.length:=Paired.length r
theorem Vals.get:∀ {xs:List V} {us:List Value} {i:Nat} {x:V},Vals xs us->xs[i]?=some x->∃ u,us[i]?=some u/\RelV x u
 | _,_,_,_,.nil,e=>by simp at e
 | _,_,0,_,.cons r _,e=>by simp at e;subst e;exact⟨_,rfl,r⟩
 | _,_,i+1,x,.cons _ t,e=>by
  obtain⟨u,h1,h2⟩:=Vals.get (i:=i) (x:=x) t (by simpa using e);exact⟨u,by simpa using h1,h2⟩
theorem Vals.set (r:RelV x u):∀ {xs:List V} {us:List Value} (i:Nat),Vals xs us->Vals (xs.set i x) (us.set i u)
 | _,_,_,.nil=>.nil
 | _,_,0,.cons _ t=>.cons r t
 | _,_,i+1,.cons q t=>.cons q (Vals.set r i t)
theorem Vals.append:∀ {xs ys:List V} {us ws:List Value},Vals xs us->Vals ys ws->Vals (xs++ys) (us++ws)
 | _,_,_,_,.nil,s=>s
 | _,_,_,_,.cons r t,s=>.cons r (Vals.append t s)
theorem Vals.take:∀ {xs:List V} {us:List Value} (n:Nat),Vals xs us->Vals (xs.take n) (us.take n)
 | _,_,0,_=>.nil
 | _,_,_+1,.nil=>.nil
 | _,_,n+1,.cons r t=>.cons r (Vals.take n t)
theorem Vals.drop:∀ {xs:List V} {us:List Value} (n:Nat),Vals xs us->Vals (xs.drop n) (us.drop n)
 | _,_,0,r=>r
 | _,_,_+1,.nil=>.nil
 | _,_,n+1,.cons _ t=>Vals.drop n t
def RelO:Option V->Option Value->Prop
 | some v,some u=>RelV v u
 | none,none=>True
 | _,_=>False
def KV {a:Type}:List (a×V)->List (a×Value)->Prop:=Paired λ(p:a×V) (q:a×Value)=>p.1=q.1/\RelV p.2 q.2
noncomputable def kV:Key->V
 | .inl i=>.int i
 | .inr x=>.str x
set_option genSizeOf false in
set_option genInjectivity false in
inductive HO where
 /-- a list -/
 | lst (xs:List V)
 /-- a tuple (never changes) -/
 | tup (xs:List V)
 /-- a dict whose keys are ints and texts;one whose keys are tuples of ints and texts (the empty one is both) -/
 | dK (kvs:List (Key×V)) | dT (kvs:List (List Key×V))
 /-- a set of ints: its members,its size -/
 | set (S:Int->Bool) (n:Nat)
 /-- an instance of the class at C,its dict at dx,its attributes -/
 | ins (C dx:Addr) (fs:List (Str×V))
 /-- the dict of the instance at x -/
 | own (x:Addr)
 /-- the dict of an exception -/
 | xd (fs:List (Str×V))
 /-- a bound method,f of x -/
 | met (f x:Addr)
 /-- a range object lo,lo+1,.. below hi -/
 | rng (lo hi:Int)
 /-- a thing that is known to the object (the script;a dict while a loop walks it): read,never written while it is so -/
 | frz (o:Obj) (u:HO)
 /-- a code object's table: the codes of the defs made within,all of this name -/
 | tbl (q:Str)
 /-- any other thing,by what is true of its one object (a def of one's own: SetO a S n:=HO.ext λh=>..) -/
 | ext (g:Heap->Prop)
abbrev Hp:=Addr->Option HO
def upd (H:Hp)(a:Addr)(o:HO):Hp:=λb=>if b=a then some o else H b
theorem zAh :upd H a o a=some o:=by unfold upd;rw[if_pos rfl]
theorem zAP (h:b≠a):upd H a o b=H b:=by unfold upd;rw[if_neg h]
theorem zT5 {H:Hp}(h:H a=some o)(h':H b=some u)(d:o≠u):a≠b:=by
 intro e;subst e;rw[h] at h';exact d (xj h')
theorem zAw {H:Hp}(h:H a=some o)(h':H b=none):a≠b:=by
 intro e;subst e;rw[h] at h';cases h'
section
variable (P:Program)(w:World)
def zL3 (o:Obj)(q:Str):Prop:=∃ vs t,o.data=.fields vs/\vs[1]?=some (.str q t)
def zBm (H:Hp)(h:Heap)(a:Addr):HO->Prop
 | .lst xs=>xs.length<=sizeLine/\∃ (its:List Value) (n:Nat),Vals xs its/\h.get? a=some { cls:=.type "list",data:=.seq its.toArray n }
 | .tup xs=>xs.length<=sizeLine/\∃ its:List Value,Vals xs its/\IsTup h a its.toArray
 | .dK kvs=>kvs.length<=sizeLine/\(a==sysModules)=false/\∃ vs,KV kvs vs/\h.DictOf (zKM P w) a vs
 | .dT kvs=>kvs.length<=sizeLine/\(a==sysModules)=false/\∃ xs:List (List Key×Addr×Value),
   Paired (λ(p:List Key×V) (q:List Key×Addr×Value)=>p.1=q.1/\H q.2.1=some (.tup (p.1.map kV))/\RelV p.2 q.2.2) kvs xs /\
   ∃ o es ep,h.get? a=some o/\o.ExactDict/\o.data=.dict es ep/\es.toList=xs.map (entryOfKey (tupleKind (zKM P w)))/\(xs.map (·.1)).Nodup
 | .set S n=>h.SetOf (intKind P w) a S n
 | .ins C dx fs=>H dx=some (.own a)/\fs.length<=1000/\dx≠a/\h.get? a=some (W.instObj C dx) /\
   ∃ mA,h.Ns1 dx mA/\(∀ f,RelO (fs.lookup f) (mA f))/\PySem.Within mA (fs.map (·.1))
 | .own _=>∃ o,h.get? a=some o
 | .xd fs=>∃ mA,h.Ns1 a mA/\∀ f,RelO (fs.lookup f) (mA f)
 | .rng lo hi=>∃ t u v,h.get? a=some { cls:=.type "range",data:=.fields #[.int lo t,.int hi u,.int 1 v] }
 | .frz o u=>h.get? a=some o/\zBm H h a u
 | .tbl q=>∃ ps:Array Value,h.get? a=some { cls:=.none,data:=.fields ps }/\TriplesOk ps.toList/\∀ pos cv,codeAmong pos ps.toList=some cv->∃ c oc u,cv=.ref c/\H c=some (.frz oc u)/\zL3 oc q
 | .met f x=>h.get? a=some (W.methodObj (.ref f) (.ref x))
 | .ext g=>g h/\(∃ o,h.get? a=some o)/\∀ h1 h2:Heap,g h1->(∀ o,h1.get? a=some o->h2.get? a=some o)->g h2
def HOk (H:Hp)(h:Heap):Prop:=∀ a o,H a=some o->zBm P w H h a o
end
section
variable {P:Program}{w:World}{H H':Hp}{h h':Heap}{a:Addr}{o:HO}
theorem zBm.lt (x:zBm P w H h a o):a < h.objs.size:=by
 cases o with
 | lst xs=>obtain⟨_,_,_,_,e⟩:=x;exact lt_size e
 | tup xs=>obtain⟨_,_,_,p⟩:=x;exact p.lt
 | dK kvs=>obtain⟨_,_,_,_,o,_,_,e,_⟩:=x;exact lt_size e
 | dT kvs=>obtain⟨_,_,_,_,o,_,_,e,_⟩:=x;exact lt_size e
 | set S n=>obtain⟨o,_,_,_,e,_⟩:=x;exact lt_size e
 | ins C dx fs=>obtain⟨_,_,_,e,_⟩:=x;exact lt_size e
 | own y=>obtain⟨_,e⟩:=x;exact lt_size e
 | xd fs=>obtain⟨_,⟨_,_,_,e,_⟩,_⟩:=x;exact lt_size e
 | rng lo hi=>obtain⟨_,_,_,e⟩:=x;exact lt_size e
 | frz ob u=>obtain⟨e,_⟩:=x;exact lt_size e
 | tbl q=>obtain⟨ps,e,_⟩:=x;exact lt_size e
 | met f y=>exact lt_size (show h.get? a=some _ from x)
 | ext g=>obtain⟨_,⟨_,e⟩,_⟩:=x;exact lt_size e
theorem Paired.mapP {U M:Type}{F G:U->M->Prop}:∀ {Z4:List U} {Z5:List M},Paired F Z4 Z5->(∀ a b,F a b->G a b)->Paired G Z4 Z5
 | _,_,.nil,_=>.nil
 | _,_,.cons r t,f=>.cons (f _ _ r) (Paired.mapP t f)
theorem zBm.stay (x:zBm P w H h a o)(k:∀ b u,(b=a\/H b=some (.own a))->h.get? b=some u->h'.get? b=some u)
  (ho:∀ b,H b=some (.own a)->H' b=some (.own a)) (ht:∀ b xs,H b=some (.tup xs)->H' b=some (.tup xs)) (hf:∀ b ob u,H b=some (.frz ob u)->(∃ vs,ob.data=.fields vs)->H' b=some (.frz ob u)):zBm P w H' h' a o:=by
 induction o with
 | lst xs=>obtain⟨z,its,n,r,e⟩:=x;exact⟨z,its,n,r,k _ _ (.inl rfl) e⟩
 | tup xs=>obtain⟨z,its,r,ob,e,c⟩:=x;exact⟨z,its,r,ob,k _ _ (.inl rfl) e,c⟩
 | dK kvs=>obtain⟨z,y,vs,r,ob,es,ep,e,c⟩:=x;exact⟨z,y,vs,r,ob,es,ep,k _ _ (.inl rfl) e,c⟩
 | dT kvs =>
  obtain⟨z,y,xs,r,ob,es,ep,e,c⟩:=x;exact⟨z,y,xs,Paired.mapP r λp q z=>⟨z.1,ht _ _ z.2.1,z.2.2⟩,ob,es,ep,k _ _ (.inl rfl) e,c⟩
 | set S n=>obtain⟨ob,es,ep,t,e,c⟩:=x;exact⟨ob,es,ep,t,k _ _ (.inl rfl) e,c⟩
 | ins C dx fs =>
  obtain⟨d,z,ne,e,mA,⟨od,es,ep,e2,c⟩,r⟩:=x;exact⟨ho _ d,z,ne,k _ _ (.inl rfl) e,mA,⟨od,es,ep,k _ _ (.inr d) e2,c⟩,r⟩
 | own y=>obtain⟨ob,e⟩:=x;exact⟨ob,k _ _ (.inl rfl) e⟩
 | xd fs=>obtain⟨mA,⟨od,es,ep,e,c⟩,r⟩:=x;exact⟨mA,⟨od,es,ep,k _ _ (.inl rfl) e,c⟩,r⟩
 | rng lo hi=>obtain⟨t,u,v,e⟩:=x;exact⟨t,u,v,k _ _ (.inl rfl) e⟩
 | frz ob u ih=>obtain⟨e,q⟩:=x;exact⟨k _ _ (.inl rfl) e,ih q⟩
 | tbl q =>
  obtain⟨ps,e,t,c⟩:=x;exact⟨ps,k a _ (.inl rfl) e,t,λpos cv z=>let ⟨c1,oc,u,e1,e2,e3⟩:=c pos cv z;⟨c1,oc,u,e1,hf _ _ _ e2 (let ⟨vs,_,d,_⟩:=e3;⟨vs,d⟩),e3⟩⟩
 | met f y =>
  have e:h.get? a=some (W.methodObj (.ref f) (.ref y)):=x;show h'.get? a=some (W.methodObj (.ref f) (.ref y));exact k a _ (.inl rfl) e
 | ext g=>obtain⟨p,⟨o,e⟩,st⟩:=x;exact⟨st _ _ p λo q=>k _ _ (.inl rfl) q,⟨o,k _ _ (.inl rfl) e⟩,st⟩
theorem HOk.lt (x:HOk P w H h)(e:H a=some o):a < h.objs.size:=(x a o e).lt
theorem HOk.fresh (x:HOk P w H h)(e:h.objs.size<=a):H a=none:=by
 cases q:H a with
 | none=>rfl
 | some u=>exact absurd (xQ (x.lt q) e) (lt_irrefl _)
theorem HOk.kept (x:HOk P w H h)(k:∀ b u,h.get? b=some u->h'.get? b=some u):HOk P w H h':=λa o e =>
 (x a o e).stay (λb u _ q=>k b u q) (λ_ q=>q) (λ_ _ q=>q) λ_ _ _ q _=>q
theorem HOk.laid (x:HOk P w H h)(k:∀ b u,h.get? b=some u->h'.get? b=some u)(hp:h.objs.size<=a)(new:zBm P w (upd H a o) h' a o):HOk P w (upd H a o) h':=λb u e=>by
 have hn:=x.fresh hp;by_cases hb:b=a
 .subst hb;rw[zAh] at e;cases e;exact new
 .rw [zAP hb] at e;exact(x b u e).stay (λc v _ q=>k c v q) (λc q=>by rw[zAP (zAw q hn)];exact q) (λc xs q=>by rw[zAP (zAw q hn)];exact q) λc ob u q _=>by rw[zAP (zAw q hn)];exact q
end
def Rd (H:Hp)(a:Addr)(u:HO):Prop:=H a=some u\/∃ o,H a=some (.frz o u)
theorem Rd.ok (r:Rd H a u)(x:HOk P w H h):zBm P w H h a u:=by
 rcases r with r | ⟨o,r⟩
 .exact x a u r
 .obtain ⟨_,q⟩:=x a _ r;exact q
def Mut:Option HO->Prop
 | some (.lst _)=>True
 | some (.dK _)=>True
 | some (.dT _)=>True
 | some (.set _ _)=>True
 | some (.ins _ _ _)=>True
 | some (.ext _)=>True
 | _=>False
section
variable {P:Program}{w:World}{H:Hp}{h h':Heap}{x e:Addr}{o':HO}
theorem HOk.write (ok:HOk P w H h)(mu:Mut (H x))(he:e=x\/H e=some (.own x))(k:∀ b u,b≠e->h.get? b=some u->h'.get? b=some u)(heo:∃ u,h'.get? e=some u)
  (new:zBm P w (upd H x o') h' x o'):HOk P w (upd H x o') h':=λb u q=>by
 have nown:∀ c y,H c=some (.own y)->c≠x:=λc y r z=>by subst z;rw[r] at mu;exact mu
 have ntup:∀ c xs,H c=some (.tup xs)->c≠x:=λc xs r z=>by subst z;rw[r] at mu;exact mu
 have nfrz:∀ c ob v,H c=some (.frz ob v)->c≠x:=λc ob v r z=>by subst z;rw[r] at mu;exact mu
 by_cases hb:b=x
 .subst hb;rw[zAh] at q;cases q;exact new
 .rw [zAP hb] at q;by_cases hbe:b=e
  .have q':H b=some (.own x):=by
    rcases he with z | z
    .exact absurd (hbe.trans z) hb
    .rw [hbe];exact z
   rw[q] at q';cases q';obtain⟨v,hv⟩:=heo;exact⟨v,by rw[hbe];exact hv⟩
  .refine (ok b u q).stay (λc v hc r=>k c v ?_ r) (λc r=>by rw[zAP (nown c b r)];exact r) (λc xs r=>by rw[zAP (ntup c xs r)];exact r) λc ob v r _=>by rw[zAP (nfrz c ob v r)];exact r
   rcases hc with rfl | hc
   .exact hbe
   .rintro rfl;rcases he with z | z
    .exact nown c b hc z
    .rw [hc] at z;cases z;exact hb rfl
end
structure Un (fs ex:List Addr)(H H':Hp)(h h':Heap):Prop where
 keep:∀ b o,h.get? b=some o->H b=none->b∉fs->b∉ex->h'.get? b=some o
 slot:∀ b o,h.get? b=some o->H b=none->b∈fs->b∉ex->∃ sl,h'.get? b=some { o with slots:=sl }
 free:∀ b o,h.get? b=some o->H b=none->b∉ex->H' b=none
 there:∀ b o,h.get? b=some o->b∉ex->∃ o',h'.get? b=some o'
 tups:∀ b xs,H b=some (.tup xs)->H' b=some (.tup xs)
 frzs:∀ b o u,H b=some (.frz o u)->H' b=some (.frz o u)
 tbls:∀ b q,H b=some (.tbl q)->H' b=some (.tbl q)
section
variable {fs fs' ex ex':List Addr}{H H1 H2:Hp}{h h1 h2 h':Heap}{a x e:Addr}{o:HO}
theorem Un.any (u:Un fs ex H H1 h h1)(q:h.get? b=some ob)(n:H b=none)(hx:b∉ex):∃ sl,h1.get? b=some { ob with slots:=sl }:=by
 by_cases hb:b∈fs
 .exact u.slot b ob q n hb hx
 .exact ⟨ob.slots,u.keep b ob q n hb hx⟩
theorem Un.trans (a:Un fs ex H H1 h h1)(b:Un fs ex H1 H2 h1 h2):Un fs ex H H2 h h2 where
 keep:=λc ob q n hc hx=>b.keep c ob (a.keep c ob q n hc hx) (a.free c ob q n hx) hc hx
 slot:=λc ob q n hc hx=>by
  obtain⟨sl,e1⟩:=a.slot c ob q n hc hx;obtain⟨sl',e2⟩:=b.slot c _ e1 (a.free c ob q n hx) hc hx;exact⟨sl',e2⟩
 free:=λc ob q n hx=>by
  obtain⟨o',e1⟩:=a.there c ob q hx;exact b.free c o' e1 (a.free c ob q n hx) hx
 there:=λc ob q hx=>by
  obtain⟨o',e1⟩:=a.there c ob q hx;exact b.there c o' e1 hx
 tups:=λc xs q=>b.tups c xs (a.tups c xs q)
 frzs:=λc ob xs q=>b.frzs c ob xs (a.frzs c ob xs q)
 tbls:=λc ps q=>b.tbls c _ (a.tbls c ps q)
theorem Un.kept (k:∀ b u,h.get? b=some u->h'.get? b=some u):Un fs ex H H h h' :=
 ⟨λb ob q _ _ _=>k b ob q,λb ob q _ _ _=>⟨ob.slots,k b ob q⟩,λ_ _ _ n _=>n,λb ob q _=>⟨ob,k b ob q⟩,λ_ _ q=>q,λ_ _ _ q=>q,λ_ _ q=>q⟩
theorem Un.refl:Un fs ex H H h h:=Un.kept λ_ _ q=>q
theorem Un.laid (k:∀ b u,h.get? b=some u->h'.get? b=some u)(hp:h.objs.size<=a)(hn:H a=none):Un fs ex H (upd H a o) h h' where
 keep:=λb u q _ _ _=>k b u q
 slot:=λb u q _ _ _=>⟨u.slots,k b u q⟩
 free:=λb u q n _=>by rw[zAP (ne_of_lt (xQ (lt_size q) hp))];exact n
 there:=λb u q _=>⟨u,k b u q⟩
 tups:=λb xs q=>by rw[zAP (zAw q hn)];exact q
 frzs:=λb u xs q=>by rw[zAP (zAw q hn)];exact q
 tbls:=λb ps q=>by rw[zAP (zAw q hn)];exact q
theorem Un.write (mu:Mut (H x))(he:e=x\/H e=some (.own x))(k:∀ b u,b≠e->h.get? b=some u->h'.get? b=some u)(heo:∃ u,h'.get? e=some u):Un fs ex H (upd H x o) h h':=by
 have hx:∀ b,H b=none->b≠x:=λb n z=>by subst z;rw[n] at mu;exact mu
 have hb:∀ b,H b=none->b≠e:=λb n z=>by
  subst z;rcases he with r | r
  .exact hx b n r
  .rw [n] at r;cases r
 have hm:∀ b u,H b=some u->¬ Mut (some u)->b≠x:=λb u q nm z=>by subst z;rw[q] at mu;exact nm mu
 refine⟨λb u q n _ _=>k b u (hb b n) q,λb u q n _ _=>⟨u.slots,k b u (hb b n) q⟩,λb u q n _=>by rw[zAP (hx b n)];exact n,λb u q _=>?_,
  λb xs q=>by rw[zAP (hm b _ q λz=>z)];exact q,λb u xs q=>by rw[zAP (hm b _ q λz=>z)];exact q,λb ps q=>by rw[zAP (hm b _ q λz=>z)];exact q⟩
 by_cases hbe:b=e
 .subst hbe;exact heo
 .exact ⟨u,k b u hbe q⟩
theorem Un.mono (u:Un fs ex H H1 h h1)(hs:∀ b∈fs,b∈fs')(hx:∀ b∈ex,b∈ex'):Un fs' ex' H H1 h h1 :=
 ⟨λb ob q n hb he=>u.keep b ob q n (λz=>hb (hs b z)) λz=>he (hx b z),λ_ _ q n _ he=>u.any q n λz=>he (hx _ z),λb ob q n he=>u.free b ob q n λz=>he (hx b z),λb ob q he=>u.there b ob q λz=>he (hx b z),u.tups,u.frzs,u.tbls⟩
end
def trk (h:Heap)(H:Hp):List Addr:=(List.range h.objs.size).filter λa=>(H a).isSome
def hidT (h:Heap)(H:Hp):Heap:=W.hideAll h (trk h H)
theorem zKf (h:Heap)(H:Hp):(hidT h H).objs.size=h.objs.size:=W.hideAll_size _ _
theorem zMv (e:h.get? b=some o)(n:H b=none):(hidT h H).get? b=some o :=
 W.hideAll_get _ e λhm=>by
  have q:(H b).isSome=true:=(mem_filter.mp hm).2;rw[n] at q;simp at q
theorem zPZ (e:(hidT h H).get? b=some o):h.get? b=some o/\H b=none:=by
 have e':h.get? b=some o:=W.of_hideAll (trk h H) e;refine⟨e',?_⟩;cases q:H b with
 | none=>rfl
 | some x =>
  have hm:b∈trk h H:=mem_filter.mpr ⟨mem_range.mpr (lt_size e'),by simp[q]⟩;have z:(hidT h H).get? b=none:=W.hideAll_none (trk h H) hm;rw[z] at e;cases e
end L2
namespace L2
open PySem Spec PyProof.Rows
def zBx:List Str:=["thinned_covers","Fill.films","Join.films","Group.films"]
def lamQ (x:Str):Str:=x ++ ".<locals>." ++ "<lambda>"
def zPo:List (Str×Str×Str):=[("Fill.films","Fill","films"),("Join.films","Join","films"),("Group.films","Group","films")]
def zOr (K:W.Frag)(f:Addr):Option (Addr×Addr):=match K.lookup f with
 | some ⟨_,_,.func fd,_⟩=>(match fd.code with
  | .ref c=>(match K.lookup c with
   | some ⟨_,_,.fields vs,_⟩=>(match (vs[11]?:Option Value) with
    | some (.ref P)=>some (c,P)
    | _=>none)
   | _=>none)
  | _=>none)
 | _=>none
def zHB (K:W.Frag)(x:Str):Option Addr:=match zPo.lookup x with
 | some (c,m)=>(match W.nsIn K mainGlobals c with
  | some (some (.ref C))=>(match W.findIn K (.ref C) m with
   | some (some (.ref f))=>some f
   | _=>none)
  | _=>none)
 | none=>(match W.nsIn K mainGlobals x with
  | some (some (.ref f))=>some f
  | _=>none)
def tabQ (K:W.Frag)(x:Str):Option (Addr×Addr):=(zHB K x).bind (zOr K)
theorem zJG {K:W.Frag}(ht:tabQ K x=some (c,P))(hf:zHB K x=some f)(hl:K.lookup f=some ⟨oc,od,.func fd,sl⟩):fd.code=.ref c:=by
 unfold tabQ at ht;rw[hf] at ht
 change zOr K f=_ at ht
 unfold zOr at ht;rw[hl] at ht;dsimp only at ht;split at ht
 .rename_i c2 hc;split at ht
  .split at ht
   .cases ht;exact hc
   .cases ht
  .cases ht
 .cases ht
structure Mod (K:W.Frag)(mg:Str->Option Value)(base:Heap):Prop where
 kin:K.In base
 glob:base.Ns mainGlobals mg
 blt:∃ mb,base.Ns builtinsNs mb/\∀ x:Str,x ≠ "__name__"->mb x=bootBuiltins x
 nolimit:base.NoLimit
 seer:base.NoSeer
 bm:∃ bm ob,mg "__builtins__"=some (.ref bm)/\bm≠builtinsNs/\base.get? bm=some ob/\ob.cls=.type "module"/\ob.dict=some builtinsNs/\ob.data=.plain
 codes:∀ x∈zBx,∀ c P,tabQ K x=some (c,P)->W.CodeHd base c P
def zIL (K:W.Frag)(H:Hp):Prop:=∀ x∈zBx,∀ c P,tabQ K x=some (c,P)->H P=some (.tbl (lamQ x))
structure Cx where
 prog:Program
 w:World
 K:W.Frag
 mg:Str->Option Value
 base:Heap
 A:Around
 N:List Str
 s0:Shared
 Y3:Hp
 env:Env
 outer:List Env
 stack:List Env
 ex:List Addr
 fn:Str->Bool
 calm:Bool
 pn:List (Addr×Obj)
 xe:Value->Shared->Prop
def frs (l:List Env):List Addr:=l.filterMap (·.frame)
abbrev Cx.fs (X:Cx):List Addr:=frs X.outer
def Vis (sc:Scope)(x:Str):Prop:=sc.names.lookup x=some .local\/sc.names.lookup x=some .cell\/sc.names.lookup x=some .free
def Loc (sc:Scope)(x:Str):Prop:=sc.names.lookup x=some .local\/sc.names.lookup x=some .cell
def Look (env:Env)(h:Heap)(m:Str->Option Value)(x:Str)(u:Value):Prop :=
 (env.kindOf x=some .local/\m x=some u)\/((env.kindOf x=some .cell\/env.kindOf x=some .free)/\∃ c,env.cells.lookup x=some c/\h.IsCell c (some u))
structure Cx.Ok (X:Cx):Prop where
 mod:Mod X.K X.mg X.base
 kind:X.env.scope.kind=.function
 glob:X.env.globals=mainGlobals
 blt:X.env.builtins=builtinsNs
 above:X.s0.heap.objs.size<=X.env.locals
 inj:∀ x y c,X.env.cells.lookup x=some c->X.env.cells.lookup y=some c->x=y
 has:∀ x,(X.env.kindOf x=some .cell\/X.env.kindOf x=some .free)->∃ c,X.env.cells.lookup x=some c
 cab:∀ x c,X.fn x=true->X.env.cells.lookup x=some c->X.s0.heap.objs.size<=c
 hd:X.calm=true->X.A.handled=none
 frames:X.A.frames=some X.stack
 stk:X.stack=X.outer\/(X.stack=X.env::X.outer/\X.env.frame=some X.env.locals)
 exf:∀ b∈X.ex,b≠X.env.locals/\∀ x c,X.env.cells.lookup x=some c->c≠b
 bs:∀ b o,X.base.get? b=some o->X.s0.heap.get? b=some o/\X.Y3 b=none
 bsz:X.base.objs.size<=X.s0.heap.objs.size
 noex:∀ b o,X.base.get? b=some o->b∉X.ex
 exfs:∀ b∈X.ex,b∉X.fs
 funs:X.s0.heap.FunFrames X.base X.outer
 frf:∀ b∈X.fs,X.Y3 b=none
 pyl:X.A.depth+Builtin.pylongFrames < recursionLimit/\(model X.prog X.w).prog.given.tree=none/\∃ e l,X.stack=e::l/\e.scope.isGenerator=false/\e.scope.isCoroutine=false/\e.builtins=builtinsNs/\e.globals=mainGlobals
 tabs:zIL X.K X.Y3
structure Inv (X:Cx)(pins:List (Addr×Obj))(B:List (Option V))(H:Hp)(s:Shared):Prop where
 ok:X.Ok
 os:s.os=X.s0.os
 bare:AllBare s.gens
 base:Un X.fs X.ex X.Y3 H X.s0.heap s.heap
 loc:∃ m,s.heap.Ns X.env.locals m/\∀ (i:Nat) (x:Str) (v:V),X.N[i]?=some x->B[i]?=some (some v)->Vis X.env.scope x->∃ u,RelV v u/\Look X.env s.heap m x u
 cell:∀ x c,X.env.cells.lookup x=some c->∃ v,s.heap.IsCell c v
 free:H X.env.locals=none
 freeC:∀ x c,X.env.cells.lookup x=some c->H c=none
 pin:∀ p∈X.pn++pins,s.heap.get? p.1=some p.2/\H p.1=none/\p.1≠X.env.locals/\p.1∉X.fs/\∀ v,p.2.data≠.cell v
 hok:HOk X.prog X.w H s.heap
 len:B.length=X.N.length
section
variable {X:Cx}{pins:List (Addr×Obj)}{B:List (Option V)}{H H':Hp}{s:Shared}{h':Heap}
theorem Cx.Ok.nofr (ok:X.Ok)(e:X.base.get? b=some o):b∉X.fs:=λhb=>by
 have:=(ok.funs.mem hb).1;rw[e] at this;cases this
theorem Inv.bs (I:Inv X pins B H s):∀ b o,X.base.get? b=some o->s.heap.get? b=some o/\H b=none:=λb o e =>
 ⟨I.base.keep b o (I.ok.bs b o e).1 (I.ok.bs b o e).2 (I.ok.nofr e) (I.ok.noex b o e),I.base.free b o (I.ok.bs b o e).1 (I.ok.bs b o e).2 (I.ok.noex b o e)⟩
theorem Inv.bk (I:Inv X pins B H s):∀ b o,X.base.get? b=some o->s.heap.get? b=some o:=λb o e=>(I.bs b o e).1
theorem Inv.mod (I:Inv X pins B H s):Mod X.K X.mg X.base:=I.ok.mod
theorem Inv.kIn (I:Inv X pins B H s):X.K.In s.heap:=I.ok.mod.kin.keeps I.bk
theorem Inv.nolimit (I:Inv X pins B H s):s.heap.NoLimit:=I.ok.mod.nolimit.keeps I.bk
theorem Inv.lt (I:Inv X pins B H s):X.env.locals < s.heap.objs.size:=let ⟨_,hn,_⟩:=I.loc;hn.lt
theorem Inv.sz (I:Inv X pins B H s):X.s0.heap.objs.size<=s.heap.objs.size:=le_trans I.ok.above (Nat.le_of_lt I.lt)
theorem Inv.nofs (I:Inv X pins B H s){a:Addr}(h:s.heap.objs.size<=a):a∉X.fs:=λhb=>by
 obtain⟨_,o,ho,_⟩:=I.ok.funs.mem hb;exact absurd (xQ (lt_size ho) (le_trans I.sz h)) (lt_irrefl _)
theorem Inv.cne (I:Inv X pins B H s):∀ x c,X.env.cells.lookup x=some c->c≠X.env.locals:=λx c e z=>by
 obtain⟨v,o,ho,hd⟩:=I.cell x c e;obtain⟨m,⟨o',es,ep,ho',hd',_⟩,_⟩:=I.loc;rw[z,ho'] at ho;cases ho;rw[hd'] at hd;cases hd
theorem Inv.funs (I:Inv X pins B H s):s.heap.FunFrames X.base X.outer:=by
 have all:∀ (l:List Env),(∀ b∈frs l,b∈X.fs)->X.s0.heap.FunFrames X.base l->s.heap.FunFrames X.base l:=by
  intro l
  induction l with
  | nil=>intro _ _;trivial
  | cons env r ih =>
   intro hs hl;obtain⟨hk,⟨L,o,hf,hn,ho,hd⟩,hr⟩:=hl;have hL:L∈X.fs:=hs L (by unfold frs;rw[List.filterMap_cons,hf];exact q8);obtain⟨sl,e⟩:=I.base.slot L o ho (I.ok.frf L hL) hL λz=>I.ok.exfs L z hL
   exact⟨hk,⟨L,_,hf,hn,e,hd⟩,ih (λb hb=>hs b (by unfold frs;rw[List.filterMap_cons,hf];exact qJ _ hb)) hr⟩
 exact all X.outer (λ_ hb=>hb) I.ok.funs
theorem Inv.stack (I:Inv X pins B H s):s.heap.FunFrames X.base X.stack:=by
 rcases I.ok.stk with e | ⟨e,hf⟩
 .rw [e];exact I.funs
 .rw [e];obtain⟨m,hn,_⟩:=I.loc;refine .cons (by rw[I.ok.kind];decide) hf hn ?_ I.funs;exact Heap.get?_none_of_le (le_trans I.ok.bsz I.ok.above)
theorem Inv.stkSub (I:Inv X pins B H s):∀ b∈frs X.stack,b∈X.env.locals::X.fs:=λb hb=>by
 rcases I.ok.stk with e | ⟨e,hf⟩
 .rw [e] at hb;exact qJ _ hb
 .rw [e] at hb;unfold frs at hb;rw[List.filterMap_cons,hf] at hb;exact hb
theorem Inv.stkFree (I:Inv X pins B H s):∀ b∈frs X.stack,H b=none:=λb hb=>by
 rcases mem_cons.mp (I.stkSub b hb) with e | hb
 .rw [e];exact I.free
 .obtain ⟨_,o,ho,_⟩:=I.ok.funs.mem hb;exact I.base.free b o ho (I.ok.frf b hb) λz=>I.ok.exfs b z hb
theorem Inv.step {ch:List Addr}(I:Inv X pins B H s)
  (hch:∀ b∈ch,(b∈X.ex\/X.s0.heap.objs.size<=b)/\b≠X.env.locals/\(∀ x c,X.env.cells.lookup x=some c->c≠b)/\∀ p∈X.pn++pins,p.1≠b)
  (keep:∀ b o,b≠X.env.locals->b∉X.fs->b∉ch->s.heap.get? b=some o->H b=none->h'.get? b=some o)
  (slot:∀ b o,b≠X.env.locals->b∈X.fs->b∉ch->s.heap.get? b=some o->H b=none->∃ sl,h'.get? b=some { o with slots:=sl }) (free:∀ b o,b∉ch->s.heap.get? b=some o->H b=none->H' b=none)
  (there:∀ b o,b∉ch->s.heap.get? b=some o->∃ o',h'.get? b=some o')
  (tups:∀ b xs,H b=some (.tup xs)->H' b=some (.tup xs)) (frzs:∀ b o u,H b=some (.frz o u)->H' b=some (.frz o u)) (tbls:∀ b q,H b=some (.tbl q)->H' b=some (.tbl q))
  (ns:∀ m,s.heap.Ns X.env.locals m->h'.Ns X.env.locals m) (hok:HOk X.prog X.w H' h') (hg:AllBare g') :
  Inv X pins B H' { s with heap:=h',gens:=g',drawn:=d',toks:=t' }:=by
 have neL:∀ b o,X.s0.heap.get? b=some o->b≠X.env.locals:=λb o e=>ne_of_lt (xQ (lt_size e) I.ok.above)
 have neC:∀ b o,X.s0.heap.get? b=some o->b∉X.ex->b∉ch:=λb o e hx hb=>by
  rcases(hch b hb).1 with z | z
  .exact hx z
  .exact absurd (xQ (lt_size e) z) (lt_irrefl _)
 have cellK:∀ x c,X.env.cells.lookup x=some c->∀ v,s.heap.IsCell c v->h'.IsCell c v:=λx c e v zz0=>by
  obtain⟨o,ho,hd⟩:=zz0;have nch:c∉ch:=λz=>(hch c z).2.2.1 x c e rfl
  by_cases hc:c∈X.fs
  .obtain ⟨sl,q⟩:=slot c o (I.cne x c e) hc nch ho (I.freeC x c e);exact⟨_,q,hd⟩
  .exact ⟨o,keep c o (I.cne x c e) hc nch ho (I.freeC x c e),hd⟩
 refine⟨I.ok,I.os,hg,⟨λb o e n hb hx=>?_,λb o e n hb hx=>?_,λb o e n hx=>?_,λb o e hx=>?_,λb xs e=>tups b xs (I.base.tups b xs e),λb o xs e=>frzs b o xs (I.base.frzs b o xs e),λb ps e=>?_⟩,?_,λx c e=>?_,?_,λx c e=>?_,λp hp=>?_,hok,I.len⟩
 .exact keep b o (neL b o e) hb (neC b o e hx) (I.base.keep b o e n hb hx) (I.base.free b o e n hx)
 .obtain ⟨sl,e1⟩:=I.base.slot b o e n hb hx;obtain⟨sl',e2⟩:=slot b _ (neL b o e) hb (neC b o e hx) e1 (I.base.free b o e n hx);exact⟨sl',e2⟩
 .obtain ⟨o',e1⟩:=I.base.there b o e hx;exact free b o' (neC b o e hx) e1 (I.base.free b o e n hx)
 .obtain ⟨o',e1⟩:=I.base.there b o e hx;exact there b o' (neC b o e hx) e1
 .exact tbls b _ (I.base.tbls b ps e)
 .obtain ⟨m,hn,hl⟩:=I.loc;refine⟨m,ns m hn,λi x v e1 e2 e3=>?_⟩;obtain⟨u,r,l⟩:=hl i x v e1 e2 e3;refine⟨u,r,?_⟩;rcases l with l | ⟨k,c,e,z⟩
  .exact .inl l
  .exact .inr ⟨k,c,e,cellK x c e _ z⟩
 .obtain ⟨v,z⟩:=I.cell x c e;exact⟨v,cellK x c e v z⟩
 .obtain ⟨m,⟨o,_,_,ho,_⟩,_⟩:=I.loc;exact free _ o (λz=>(hch _ z).2.1 rfl) ho I.free
 .obtain ⟨v,o,ho,hd⟩:=I.cell x c e;exact free c o (λz=>(hch c z).2.2.1 x c e rfl) ho (I.freeC x c e)
 .obtain ⟨e,n,ne,nf,d⟩:=I.pin p hp;have nch:p.1∉ch:=λz=>(hch p.1 z).2.2.2 p hp rfl
  exact⟨keep p.1 p.2 ne nf nch e n,free p.1 p.2 nch e n,ne,nf,d⟩
theorem Inv.un (I:Inv X pins B H s)(u:Un X.fs [] H H' s.heap h')(hok:HOk X.prog X.w H' h'):Inv X pins B H' { s with heap:=h',toks:=t' }:=by
 obtain⟨m,⟨o,es,ep,ho,r⟩,_⟩:=id I.loc;obtain⟨sl,hL⟩:=u.any ho I.free (by simp);exact I.step (g':=s.gens) (d':=s.drawn) (ch:=[]) (λ_ z=>nomatch z) (λb o _ hb _ e n=>u.keep b o e n hb (by simp)) (λb o _ hb _ e n=>u.slot b o e n hb (by simp)) (λb o _ e n=>u.free b o e n (by simp)) (λb o _ e=>u.there b o e (by simp)) u.tups u.frzs u.tbls (λm' hm=>by
  obtain⟨o',es',ep',ho',r'⟩:=hm;rw[ho] at ho';cases ho';exact⟨_,es',ep',hL,r'⟩) hok I.bare
theorem Inv.call (I:Inv X pins B H s)(u:Un (frs X.stack) ch H H' s.heap h')(hok:HOk X.prog X.w H' h')(hg:AllBare g')
  (hch:∀ b∈ch,(b∈X.ex\/X.s0.heap.objs.size<=b)/\b≠X.env.locals/\(∀ x c,X.env.cells.lookup x=some c->c≠b)/\∀ p∈X.pn++pins,p.1≠b) :
  Inv X pins B H' { s with heap:=h',gens:=g',drawn:=d',toks:=t' }:=by
 obtain⟨m,⟨o,es,ep,ho,r⟩,_⟩:=id I.loc;obtain⟨sl,hL⟩:=u.any ho I.free λz=>(hch _ z).2.1 rfl
 exact I.step (ch:=ch) hch (λb o hL hb hc e n=>u.keep b o e n (λz=>(mem_cons.mp (I.stkSub b z)).elim hL hb) hc) (λb o _ _ hc e n=>u.any e n hc) (λb o hc e n=>u.free b o e n hc) (λb o hc e=>u.there b o e hc) u.tups u.frzs u.tbls (λm' hm=>by
  obtain⟨o',es',ep',ho',r'⟩:=hm;rw[ho] at ho';cases ho';exact⟨_,es',ep',hL,r'⟩) hok hg
theorem Inv.turned (I:Inv X pins B H s)(k:∀ b o,b≠it->s.heap.get? b=some o->h'.get? b=some o)(hn:H it=none)(hL:it≠X.env.locals)
  (h1:it∈X.ex\/X.s0.heap.objs.size<=it) (h2:∀ x c,X.env.cells.lookup x=some c->c≠it) (h3:∀ p∈X.pn++pins,p.1≠it):Inv X pins B H { s with heap:=h',toks:=t' }:=by
 have nit:∀ b u,H b=some u->b≠it:=λb u e z=>by rw[z,hn] at e;cases e
 refine I.step (g':=s.gens) (d':=s.drawn) (ch:=[it]) (λb hb=>?_) (λb o _ _ hc e _=>k b o (λz=>hc (by simp[z])) e) (λb o _ _ hc e _=>⟨o.slots,k b o (λz=>hc (by simp[z])) e⟩) (λ_ _ _ _ n=>n)
  (λb o hc e=>⟨o,k b o (λz=>hc (by simp[z])) e⟩) (λ_ _ e=>e) (λ_ _ _ e=>e) (λ_ _ e=>e) (λm hm=>?_) (λb u e=>?_) I.bare
 .have e:b=it:=by simpa using hb
  subst e;exact⟨h1,hL,h2,h3⟩
 .obtain ⟨o,es,ep,ho,r⟩:=hm;exact⟨o,es,ep,k _ o (Ne.symm hL) ho,r⟩
 .refine (I.hok b u e).stay (λc v hc q=>k c v ?_ q) (λ_ q=>q) (λ_ _ q=>q) λ_ _ _ q _=>q
  rcases hc with z | z
  .rw [z];exact nit b u e
  .exact nit c _ z
theorem Inv.tabs (I:Inv X pins B H s):zIL X.K H:=λx hx c P e=>I.base.tbls _ _ (I.ok.tabs x hx c P e)
theorem Inv.tok (I:Inv X pins B H s)(t:Nat):Inv X pins B H { s with toks:=t }:=I.un (h':=s.heap) (t':=t) Un.refl I.hok
theorem Inv.kept (I:Inv X pins B H s)(k:∀ b u,s.heap.get? b=some u->h'.get? b=some u):Inv X pins B H { s with heap:=h',toks:=t' }:=I.un (Un.kept k) (I.hok.kept k)
theorem Inv.laid {a:Addr}{o:HO}{t':Nat}(I:Inv X pins B H s)(k:∀ b u,s.heap.get? b=some u->h'.get? b=some u)(hp:s.heap.objs.size<=a)(new:zBm X.prog X.w (upd H a o) h' a o) :
  Inv X pins B (upd H a o) { s with heap:=h',toks:=t' }:=I.un (Un.laid k hp (I.hok.fresh hp)) (I.hok.laid k hp new)
theorem Inv.write (I:Inv X pins B H s)(mu:Mut (H x))(he:e=x\/H e=some (.own x))(k:∀ b u,b≠e->s.heap.get? b=some u->h'.get? b=some u)(heo:∃ u,h'.get? e=some u)
  (new:zBm X.prog X.w (upd H x o) h' x o):Inv X pins B (upd H x o) { s with heap:=h',toks:=t' }:=I.un (Un.write mu he k heo) (I.hok.write mu he k heo new)
theorem Inv.pins_of (I:Inv X pins B H s)(h:∀ p∈pins',s.heap.get? p.1=some p.2/\H p.1=none/\p.1≠X.env.locals/\p.1∉X.fs/\∀ v,p.2.data≠.cell v):Inv X pins' B H s :=
 ⟨I.ok,I.os,I.bare,I.base,I.loc,I.cell,I.free,I.freeC,λp hp=>(mem_append.mp hp).elim (λz=>I.pin p (List.mem_append_left _ z)) (h p),I.hok,I.len⟩
theorem zHq {N:List Str}(hN:N.Nodup){j:Nat}{x:Str}(a:N[i]?=some x)(b:N[j]?=some x):i=j:=by
 obtain⟨h1,e1⟩:=zzg a;obtain⟨h2,e2⟩:=zzg b;exact(List.getElem_inj hN).mp (e1.trans e2.symm)
theorem zJM (I:Inv X pins B H s)(hN:X.N.Nodup)(hi:X.N[i]?=some x)(hx:Loc X.env.scope x)(r:RelV v u)
  (h:∀ s',Inv X pins (B.set i (some v)) H s'->(∃ a,Heap.SameBut a s.heap s'.heap/\(a=X.env.locals\/X.env.cells.lookup x=some a))->Q () s') (hf:X.fn x=true\/X.env.scope.names.lookup x=some .local:=by first | exact .inl rfl | exact .inr rfl | assumption):wpAny M A (storeName X.env x u) Q E s:=by
 obtain⟨m,hn,hl⟩:=id I.loc;have hcls:(X.env.scope.kind==.class||(X.env.scope.kind==.module&&X.env.locals != X.env.globals))=false:=by rw[I.ok.kind];rfl
 have hiB:i < B.length:=by rw[I.len];exact(zzg hi).1
 have cne:=I.cne;have tracked:∀ {a:Addr} {h':Heap},(∃ o,s.heap.get? a=some o/\H a=none)->Heap.SameBut a s.heap h'->HOk X.prog X.w H h':=λ{a h'} ha hs b ob e=>by
  obtain⟨_,_,hfree⟩:=ha;refine(I.hok b ob e).stay (λc w' hc q=>(hs.2 c ?_).trans q) (λ_ q=>q) (λ_ _ q=>q) λ_ _ _ q _=>q
  rintro rfl;rcases hc with rfl | hc
  .rw [hfree] at e;cases e
  .rw [hfree] at hc;cases hc
 rcases hx with hk | hk
 .refine wpAny_storeName_local hk hn (λh' hn' hs=>?_) hcls;obtain⟨oL,_,_,hoL,_⟩:=id hn;refine h _ ⟨I.ok,I.os,I.bare,⟨λb o e n hb hx=>?_,λb o e n hb hx=>?_,I.base.free,λb o e hx=>?_,I.base.tups,I.base.frzs,I.base.tbls⟩,⟨_,hn',λj y v' e1 e2 e3=>?_⟩,λy c e=>?_,I.free,I.freeC,λp hp=>?_,tracked ⟨oL,hoL,I.free⟩ hs,by simpa using I.len⟩ ⟨_,hs,.inl rfl⟩
  .exact (hs.2 b (ne_of_lt (xQ (lt_size e) I.ok.above))).trans (I.base.keep b o e n hb hx)
  .obtain ⟨sl,e1⟩:=I.base.slot b o e n hb hx;exact⟨sl,(hs.2 b (ne_of_lt (xQ (lt_size e) I.ok.above))).trans e1⟩
  .obtain ⟨o',e1⟩:=I.base.there b o e hx;exact⟨o',(hs.2 b (ne_of_lt (xQ (lt_size e) I.ok.above))).trans e1⟩
  .by_cases hj:j=i
   .subst hj;rw[hi] at e1;cases e1;rw[getElem?_set_self hiB] at e2;cases e2;exact⟨u,r,.inl ⟨hk,by simp⟩⟩
   .rw [getElem?_set_ne (Ne.symm hj)] at e2;obtain⟨u',r',q⟩:=hl j y v' e1 e2 e3;refine⟨u',r',?_⟩;rcases q with ⟨k,e⟩ | ⟨k,c,e,z⟩
    .refine .inl ⟨k,?_⟩;have:y≠x:=λe=>hj (zHq hN e1 (e▸hi))
     simp[this,e]
    .exact .inr ⟨k,c,e,z.sameBut hs (cne y c e)⟩
  .obtain ⟨w',z⟩:=I.cell y c e;exact⟨w',z.sameBut hs (cne y c e)⟩
  .obtain ⟨e,n,ne,nf,d⟩:=I.pin p hp;exact⟨(hs.2 p.1 ne).trans e,n,ne,nf,d⟩
 .have hfn:X.fn x=true:=by
   rcases hf with z | z
   .exact z
   .rw [z] at hk;cases hk
  obtain⟨c,hc⟩:=I.ok.has x (.inl hk);obtain⟨w',z⟩:=I.cell x c hc;refine wpAny_storeName_cell I.ok.kind hk hc z (λh' hc' hs=>?_);obtain⟨oc,hoc,hocd⟩:=id z;refine h { s with heap:=h' } ⟨I.ok,I.os,I.bare,⟨λb o e n hb hx=>?_,λb o e n hb hx=>?_,I.base.free,λb o e hx=>?_,I.base.tups,I.base.frzs,I.base.tbls⟩,⟨m,hn.sameBut hs (Ne.symm (cne x c hc)),λj y v' e1 e2 e3=>?_⟩,λy c' e=>?_,I.free,I.freeC,λp hp=>?_,tracked ⟨oc,hoc,I.freeC x c hc⟩ hs,by simpa using I.len⟩ ⟨c,hs,.inr hc⟩
  .exact (hs.2 b (ne_of_lt (xQ (lt_size e) (I.ok.cab x c hfn hc)))).trans (I.base.keep b o e n hb hx)
  .obtain ⟨sl,e1⟩:=I.base.slot b o e n hb hx;exact⟨sl,(hs.2 b (ne_of_lt (xQ (lt_size e) (I.ok.cab x c hfn hc)))).trans e1⟩
  .obtain ⟨o',e1⟩:=I.base.there b o e hx;exact⟨o',(hs.2 b (ne_of_lt (xQ (lt_size e) (I.ok.cab x c hfn hc)))).trans e1⟩
  .by_cases hj:j=i
   .subst hj;rw[hi] at e1;cases e1;rw[getElem?_set_self hiB] at e2;cases e2;exact⟨u,r,.inr ⟨.inl hk,c,hc,hc'⟩⟩
   .rw [getElem?_set_ne (Ne.symm hj)] at e2;obtain⟨u',r',q⟩:=hl j y v' e1 e2 e3;refine⟨u',r',?_⟩;rcases q with q | ⟨k,c',e,z'⟩
    .exact .inl q
    .refine .inr ⟨k,c',e,z'.sameBut hs ?_⟩;rintro rfl;exact hj (zHq hN e1 (I.ok.inj _ _ _ e hc▸hi))
  .by_cases hcc:c'=c
   .subst hcc;exact⟨_,hc'⟩
   .obtain ⟨w2,z2⟩:=I.cell y c' e;exact⟨w2,z2.sameBut hs hcc⟩
  .obtain ⟨e,n,ne,nf,d⟩:=I.pin p hp;refine⟨(hs.2 p.1 ?_).trans e,n,ne,nf,d⟩;intro q;rw[q,hoc] at e;have q':oc=p.2:=xj e;exact d w' (by rw[<- q'];exact hocd)
theorem zFH (I:Inv X pins B H s)(hN:X.N.Nodup)(hi:X.N[i]?=some x)(hx:Loc X.env.scope x)(r:RelV v u)
  (h:∀ s',Inv X pins (B.set i (some v)) H s'->Q () s') (hf:X.fn x=true\/X.env.scope.names.lookup x=some .local:=by first | exact .inl rfl | exact .inr rfl | assumption):wpAny M A (storeName X.env x u) Q E s :=
 zJM I hN hi hx r (λs' I' _=>h s' I') hf
theorem Inv.call' (I:Inv X pins B H s)(ho:s'.os=s.os)(u:Un (frs X.stack) ch H H' s.heap s'.heap)(hok:HOk X.prog X.w H' s'.heap)(hg:AllBare s'.gens)
  (hch:∀ b∈ch,(b∈X.ex\/X.s0.heap.objs.size<=b)/\b≠X.env.locals/\(∀ x c,X.env.cells.lookup x=some c->c≠b)/\∀ p∈X.pn++pins,p.1≠b):Inv X pins B H' s':=by
 obtain⟨h',g',d',t',o'⟩:=s';have e:o'=s.os:=ho;subst e;exact I.call (g':=g') (t':=t') (d':=d') u hok hg hch
end
abbrev XK:=Value->Option Addr->Hp->Prop
abbrev St:=List (Option V)
abbrev VK:=V->Hp->Prop
abbrev TE:=St->Hp->VK->Prop
abbrev TT:=St->Hp->(Bool->Hp->Prop)->Prop
abbrev TA:=St->Hp->(List V->Hp->Prop)->Prop
structure Ends where
 nx:St->Hp->Prop
 rt:VK
 bk:St->Hp->Prop:=λ_ _=>False
 ct:St->Hp->Prop:=λ_ _=>False
abbrev TS:=Ends->St->Hp->Prop
def EP (X:Cx)(pins:List (Addr×Obj))(B:St)(Q:VK)(u:Value)(s':Shared):Prop:=∃ v H',Inv X pins B H' s'/\RelV v u/\Q v H'
def TP (X:Cx)(pins:List (Addr×Obj))(B:St)(Q:Bool->Hp->Prop)(b:Bool)(s':Shared):Prop:=∃ H',Inv X pins B H' s'/\Q b H'
def AP (X:Cx)(pins:List (Addr×Obj))(B:St)(Q:List V->Hp->Prop)(us:List Value)(s':Shared):Prop:=∃ vs H',Inv X pins B H' s'/\Vals vs us/\Q vs H'
def SP (X:Cx)(pins:List (Addr×Obj))(D:Ends)(f:Flow)(s':Shared):Prop :=
 match f with
 | .next=>∃ B' H',Inv X pins B' H' s'/\D.nx B' H'
 | .brk=>∃ B' H',Inv X pins B' H' s'/\D.bk B' H'
 | .cont=>∃ B' H',Inv X pins B' H' s'/\D.ct B' H'
 | .ret u=>∃ v B' H',Inv X pins B' H' s'/\RelV v u/\D.rt v H'
def PE (X:Cx)(e:Expr)(t:TE):Prop :=
 ∀ (pins:List (Addr×Obj)) (s:Shared) (B:St) (H:Hp) (Q:VK),Inv X pins B H s->t B H Q->wpAny (model X.prog X.w) X.A (eval e X.env) (EP X pins B Q) X.xe s
def PT (X:Cx)(e:Expr)(t:TT):Prop :=
 ∀ (pins:List (Addr×Obj)) (s:Shared) (B:St) (H:Hp) (Q:Bool->Hp->Prop),Inv X pins B H s->t B H Q->wpAny (model X.prog X.w) X.A (isTrue e X.env (eval e X.env)) (TP X pins B Q) X.xe s
def PW (X:Cx)(e:Expr)(t:TT):Prop :=
 ∀ (whole:Sem Value) (pins:List (Addr×Obj)) (s:Shared) (B:St) (H:Hp) (Q:Bool->Hp->Prop),Inv X pins B H s->t B H Q->wpAny (model X.prog X.w) X.A (isTrue e X.env whole) (TP X pins B Q) X.xe s
theorem PW.pt (h:PW X e t):PT X e t:=h _
def PA (X:Cx)(es:List Expr)(t:TA):Prop :=
 ∀ (pos:Pos) (pins:List (Addr×Obj)) (s:Shared) (B:St) (H:Hp) (Q:List V->Hp->Prop),Inv X pins B H s->t B H Q->wpAny (model X.prog X.w) X.A (spliced (backTo pos (starEach es X.env))) (AP X pins B Q) X.xe s
def PS (X:Cx)(st:Stmt)(t:TS):Prop :=
 ∀ (pins:List (Addr×Obj)) (s:Shared) (B:St) (H:Hp) (D:Ends),Inv X pins B H s->t D B H->wpAny (model X.prog X.w) X.A (exec st X.env) (SP X pins D) X.xe s
def PSs (X:Cx)(st:List Stmt)(t:TS):Prop :=
 ∀ (pins:List (Addr×Obj)) (s:Shared) (B:St) (H:Hp) (D:Ends),Inv X pins B H s->t D B H->wpAny (model X.prog X.w) X.A (execs st X.env) (SP X pins D) X.xe s
theorem thn {U:Type}{t:Sem U}{Q Q':U->Shared->Prop}{M:Model}{A:Around}{E:Value->Shared->Prop}{s:Shared}(h:wpAny M A t Q E s)(hQ:∀ a s,Q a s->Q' a s):wpAny M A t Q' E s:=wpAny_mono h hQ λ_ _ x=>x
section
variable {X:Cx}
theorem bin {a b:Expr}{ta tb:TE}(ha:PE X a ta)(hb:PE X b tb){pins:List (Addr×Obj)}{s:Shared}{B:St}{H:Hp}{R:V->V->Hp->Prop}(I:Inv X pins B H s)(h:ta B H λx H1=>tb B H1 λy H2=>R x y H2)
  {U:Type} {Q:U->Shared->Prop} {f:Value->Value->Sem U}
  (hf:∀ v u s2 x y H2,Inv X pins B H2 s2->RelV x v->RelV y u->R x y H2->wpAny (model X.prog X.w) X.A (f v u) Q X.xe s2) :
  wpAny (model X.prog X.w) X.A (eval a X.env) (λv O2=>wpAny (model X.prog X.w) X.A (eval b X.env) (λu O9=>wpAny (model X.prog X.w) X.A (f v u) Q X.xe O9) X.xe O2) X.xe s:=by
 refine thn (ha pins s B H _ I h) λv s1 zz1=>?_
 obtain⟨x,H1,I1,r1,q1⟩:=zz1;refine thn (hb pins s1 B H1 _ I1 q1) λu s2 zz2=>?_
 obtain⟨y,H2,I2,r2,q2⟩:=zz2;exact hf v u s2 x y H2 I2 r1 r2 q2
def tVar (i:Nat):TE:=λB H Q=>∃ v,B[i]?=some (some v)/\Q v H
def tC (v:V):TE:=λ_ H Q=>Q v H
theorem zDg {i:Nat}{x:Str}{pos:Pos}(hN:X.N[i]?=some x)(hv:Vis X.env.scope x)(hd:(x==("__debug__":Str))=false:=by decide)(hcd:(x==("__classdict__":Str))=false:=by decide):PE X (.Name x pos) (tVar i):=by
 intro pins s B H Q I h;obtain⟨v,e,h⟩:=h;obtain⟨m,hn,hl⟩:=I.loc;obtain⟨u,r,l⟩:=hl i x v hN e hv;have fin:EP X pins B Q u s:=⟨v,H,I,r,h⟩;rcases l with ⟨hk,hm⟩ | ⟨hk,c,hc,hcell⟩
 .exact wpAny_Name (wpAny_loadName_local I.ok.kind hk hn hm fin) hd
 .rcases hk with hk | hk
  .exact wpAny_Name (wpAny_loadName_cell I.ok.kind hk hc hcell fin) hd
  .exact wpAny_Name (wpAny_loadName_free I.ok.kind hk hc hcell fin hcd) hd
theorem zRk {i j pos}:PE X (.Constant (.int i) j pos) (tC (.int i)):=λ_ _ _ H _ I h=>wpAny_Constant_int ⟨.int i,H,I.tok _,⟨_,rfl⟩,h⟩
theorem zT2 {b j pos}:PE X (.Constant (.bool b) j pos) (tC (.bl b)):=λ_ _ _ H _ I h=>Constant_bool ⟨.bl b,H,I,rfl,h⟩
theorem zRi {j pos}:PE X (.Constant .none j pos) (tC .non):=λ_ _ _ H _ I h=>Constant_none ⟨.non,H,I,rfl,h⟩
theorem zRf {x j pos}:PE X (.Constant (.str x) j pos) (tC (.str x)):=λ_ _ _ H _ I h=>Calls.Constant_str ⟨.str x,H,I.tok _,⟨_,rfl⟩,h⟩
def Gl (X:Cx)(x:Str):Prop:=X.env.kindOf x=some .globalImplicit
theorem zDY {E:Value->Shared->Prop}{pins:List (Addr×Obj)}{s:Shared}{B:St}{H:Hp}{x:Str}{u:Value}{pos:Pos}{Q:Value->Shared->Prop}(I:Inv X pins B H s)(hg:Gl X x)(hm:X.mg x=some u)(h:Q u s)
  (hd:(x==("__debug__":Str))=false:=by decide):wpAny (model X.prog X.w) X.A (eval (.Name x pos) X.env) Q E s :=
 Calls.Name_function_global I.ok.kind hg (Calls.loadGlobal_global (by rw[I.ok.glob];exact I.mod.glob.keeps I.bk) hm h) hd
theorem zCv {E:Value->Shared->Prop}{pins:List (Addr×Obj)}{s:Shared}{B:St}{H:Hp}{x:Str}{u:Value}{pos:Pos}{Q:Value->Shared->Prop}(I:Inv X pins B H s)(hg:Gl X x)(hm:X.mg x=none)(hv:bootBuiltins x=some u)(h:Q u s)
  (hn:x ≠ "__name__":=by decide) (hd:(x==("__debug__":Str))=false:=by decide):wpAny (model X.prog X.w) X.A (eval (.Name x pos) X.env) Q E s:=by
 obtain⟨mb,h1,h2⟩:=I.mod.blt;exact Calls.Name_function_global I.ok.kind hg (Calls.loadGlobal_builtin (by rw[I.ok.glob];exact I.mod.glob.keeps I.bk) hm (by rw[I.ok.blt];exact h1.keeps I.bk) ((h2 x hn).trans hv) h) hd
theorem zJp (hg:Gl X x)(hm:X.mg x=some u)(r:RelV v u)(hd:(x==("__debug__":Str))=false:=by decide):PE X (.Name x pos) (tC v) :=
 λ_ _ _ H _ I h=>zDY I hg hm ⟨v,H,I,r,h⟩ hd
theorem zPI {x:Str}{v:V}{u:Value}{pos:Pos}(hg:Gl X x)(hm:X.mg x=none)(hv:bootBuiltins x=some u)(r:RelV v u)(hn:x ≠ "__name__":=by decide)(hd:(x==("__debug__":Str))=false:=by decide):PE X (.Name x pos) (tC v) :=
 λ_ _ _ H _ I h=>zCv I hg hm hv ⟨v,H,I,r,h⟩ hn hd
variable {a b:Expr}{ta tb:TE}{pos:Pos}
def tB (t:TE):TT:=λB H Q=>t B H λx H1=>∃ c,x=.bl c/\Q c H1
theorem zN5 (h:PE X e t)(he:∀ whole,isTrue e X.env whole=(do let v<-whole;standAt e.pos;holding [v] (truthy v)):=by intro _;rfl):PT X e (tB t):=by
 intro pins s B H Q I hw;refine isTrue_plain (thn (h pins s B H _ I hw) λv s1 zz3=>?_) (he _);obtain⟨x,H1,I1,r1,q1⟩:=zz3;obtain⟨d,rfl,q⟩:=q1;cases r1;exact wpAny_truthy_bool ⟨H1,I1,q⟩
variable {tA tB':TT}{rest:List Expr}
def tAnd (t u:TT):TT:=λB H Q=>t B H λc H1=>if c=true then u B H1 Q else Q false H1
def tOr (t u:TT):TT:=λB H Q=>t B H λc H1=>if c=true then Q true H1 else u B H1 Q
def tNot (t:TT):TT:=λB H Q=>t B H λc H1=>Q (!c) H1
theorem zJk (ha:PT X a tA):PW X (.BoolOp .And [a] pos) tA:=by
 intro wh pins s B H Q I h;refine isTrue_and (thn (ha pins s B H Q I h) λc s1 e=>?_);cases c with
 | true=>exact isTrue_and_nil e
 | false=>exact e
theorem zN2 (ha:PT X a tA):PW X (.BoolOp .Or [a] pos) tA:=by
 intro wh pins s B H Q I h;refine isTrue_or (thn (ha pins s B H Q I h) λc s1 e=>?_);cases c with
 | false=>exact isTrue_or_nil e
 | true=>exact e
theorem zN4 (ha:PT X a tA)(hb:PW X (.BoolOp .And (b::rest) pos) tB'):PW X (.BoolOp .And (a::b::rest) pos) (tAnd tA tB'):=by
 intro wh pins s B H Q I h;refine isTrue_and (thn (ha pins s B H _ I h) λc s1 zz4=>?_);obtain⟨H1,I1,q1⟩:=zz4;cases c with
 | true=>exact hb wh pins s1 B H1 Q I1 q1
 | false=>exact⟨H1,I1,q1⟩
theorem zRZ (ha:PT X a tA)(hb:PW X (.BoolOp .Or (b::rest) pos) tB'):PW X (.BoolOp .Or (a::b::rest) pos) (tOr tA tB'):=by
 intro wh pins s B H Q I h;refine isTrue_or (thn (ha pins s B H _ I h) λc s1 zz5=>?_);obtain⟨H1,I1,q1⟩:=zz5;cases c with
 | true=>exact⟨H1,I1,q1⟩
 | false=>exact hb wh pins s1 B H1 Q I1 q1
theorem zN6 (ha:PT X a tA):PT X (.UnaryOp .Not a pos) (tNot tA):=by
 intro pins s B H Q I h;exact isTrue_not (ha pins s B H (λc H1=>Q (!c) H1) I h)
def zTx (ta tb:TE):TE:=λB H Q=>ta B H λx H1=>∃ c,x=.bl c/\if c=true then tb B H1 Q else Q (.bl false) H1
def tOrV (ta tb:TE):TE:=λB H Q=>ta B H λx H1=>∃ c,x=.bl c/\if c=true then Q (.bl true) H1 else tb B H1 Q
def zTt (ta:TE):TE:=λB H Q=>ta B H λx H1=>∃ c,x=.bl c/\Q (.bl (!c)) H1
theorem zRg {op}(h:PE X a t):PE X (.BoolOp op [a] pos) t:=λpins s B H Q I hw=>BoolOp_one (h pins s B H Q I hw)
theorem zRm (ha:PE X a ta)(hb:PE X (.BoolOp .And (b::rest) pos) tb):PE X (.BoolOp .And (a::b::rest) pos) (zTx ta tb):=by
 intro pins s B H Q I h;refine BoolOp_and (thn (ha pins s B H _ I h) λv s1 zz6=>?_);obtain⟨x,H1,I1,r1,q1⟩:=zz6;obtain⟨c,rfl,q1⟩:=q1;cases r1;refine wpAny_truthy_bool ?_;cases c with
 | true=>exact hb pins s1 B H1 Q I1 q1
 | false=>exact⟨.bl false,H1,I1,rfl,q1⟩
theorem zT0 (ha:PE X a ta)(hb:PE X (.BoolOp .Or (b::rest) pos) tb):PE X (.BoolOp .Or (a::b::rest) pos) (tOrV ta tb):=by
 intro pins s B H Q I h;refine BoolOp_or (thn (ha pins s B H _ I h) λv s1 zz7=>?_);obtain⟨x,H1,I1,r1,q1⟩:=zz7;obtain⟨c,rfl,q1⟩:=q1;cases r1;refine wpAny_truthy_bool ?_;cases c with
 | false=>exact hb pins s1 B H1 Q I1 q1
 | true=>exact⟨.bl true,H1,I1,rfl,q1⟩
theorem zRh (ha:PE X a ta):PE X (.UnaryOp .Not a pos) (zTt ta):=by
 intro pins s B H Q I h;refine UnaryOp_ (thn (ha pins s B H _ I h) λv s1 zz8=>?_);obtain⟨x,H1,I1,r1,q1⟩:=zz8;obtain⟨c,rfl,q1⟩:=q1;cases r1;exact not_of (wpAny_truthy_bool ⟨.bl (!c),H1,I1,rfl,q1⟩)
def tIf (t:TT)(ta tb:TE):TE:=λB H Q=>t B H λc H1=>if c=true then ta B H1 Q else tb B H1 Q
theorem zMT (hc:PT X c tA)(ha:PE X a ta)(hb:PE X b tb):PE X (.IfExp c a b pos) (tIf tA ta tb):=by
 intro pins s B H Q I h;refine wpAny_IfExp (thn (hc pins s B H _ I h) λd s1 zz9=>?_);obtain⟨H1,I1,q1⟩:=zz9;cases d with
 | true=>exact ha pins s1 B H1 Q I1 q1
 | false=>exact hb pins s1 B H1 Q I1 q1
end
def SqL (K:W.Frag)(H:Hp)(a:Addr)(xs:List V):Prop :=
 Rd H a (.lst xs) \/
  ∃ (o:Obj) (its:Array Value) (n:Nat),K.lookup a=some o/\o.cls=.type "list"/\o.dict=none/\o.data=.seq its n/\its.size<=sizeLine/\Vals xs its.toList
def SqT (K:W.Frag)(H:Hp)(a:Addr)(xs:List V):Prop :=
 Rd H a (.tup xs) \/
  ∃ (o:Obj) (its:Array Value) (n:Nat),K.lookup a=some o/\o.cls=.type "tuple"/\o.data=.seq its n/\its.size<=sizeLine/\Vals xs its.toList
noncomputable def absV:Value->Option V
 | .none=>some .non
 | .bool b=>some (.bl b)
 | .int i _=>some (.int i)
 | .str x _=>some (.str x)
 | .bytes b _=>some (.byt b)
 | .float b _=>some (.flt b)
 | .ref a=>some (.ref a)
 | .type n=>some (.ty n)
 | _=>none
theorem RelV.abs (r:RelV x u):absV u=some x:=by
 cases x with
 | non=>cases r;rfl
 | bl _=>cases r;rfl
 | int _=>obtain⟨t,rfl⟩:=r;rfl
 | str _=>obtain⟨t,rfl⟩:=r;rfl
 | byt _=>obtain⟨t,rfl⟩:=r;rfl
 | flt _=>obtain⟨t,rfl⟩:=r;rfl
 | ref _=>cases r;rfl
 | ty _=>cases r;rfl
theorem RelV.inj (r:RelV x u)(q:RelV y u):x=y:=xj (r.abs.symm.trans q.abs)
theorem Vals.inj:∀ {xs ys:List V} {us:List Value},Vals xs us->Vals ys us->xs=ys
 | _,_,_,.nil,.nil=>rfl
 | _,_,_,.cons r t,.cons r' t'=>by rw[r.inj r',Vals.inj t t']
section
variable {X:Cx}{pins:List (Addr×Obj)}{B:St}{H:Hp}{s:Shared}{a:Addr}{xs ys:List V}
theorem SqL.of {K:W.Frag}(h:H a=some (.lst xs)):SqL K H a xs:=.inl (.inl h)
theorem SqT.of {K:W.Frag}(h:H a=some (.tup xs)):SqT K H a xs:=.inl (.inl h)
theorem Inv.list (I:Inv X pins B H s)(h:SqL X.K H a xs):∃ its:List Value,Vals xs its/\PlainL s.heap a its.toArray/\xs.length<=sizeLine:=by
 rcases h with h | ⟨o,its,n,hk,hc,hd,hs,hz,r⟩
 .obtain ⟨z,its,n,r,e⟩:=h.ok I.hok;exact⟨its,r,⟨_,n,e,rfl,rfl,rfl⟩,z⟩
 .refine ⟨its.toList,r,⟨o,n,I.kIn a o hk,hc,hd,by simpa using hs⟩,?_⟩;have e:=r.length;simp only[Array.length_toList] at e;omega
theorem Inv.tuple (I:Inv X pins B H s)(h:SqT X.K H a xs):∃ its:List Value,Vals xs its/\IsTup s.heap a its.toArray/\xs.length<=sizeLine:=by
 rcases h with h | ⟨o,its,n,hk,hc,hs,hz,r⟩
 .obtain ⟨z,its,r,p⟩:=h.ok I.hok;exact⟨its,r,p,z⟩
 .refine ⟨its.toList,r,⟨o,I.kIn a o hk,hc,n,by simpa using hs⟩,?_⟩;have e:=r.length;simp only[Array.length_toList] at e;omega
theorem Inv.list_inj (I:Inv X pins B H s)(h:SqL X.K H a xs)(h':SqL X.K H a ys):xs=ys:=by
 obtain⟨its,r,⟨o,n,e,_,_,d⟩,_⟩:=I.list h;obtain⟨its',r',⟨o',n',e',_,_,d'⟩,_⟩:=I.list h';rw[e] at e';cases e';rw[d] at d';injection d' with d1 _
 have:its=its':=by simpa using congrArg Array.toList d1
 subst this;exact r.inj r'
theorem Inv.tuple_inj (I:Inv X pins B H s)(h:SqT X.K H a xs)(h':SqT X.K H a ys):xs=ys:=by
 obtain⟨its,r,⟨o,e,_,n,d⟩,_⟩:=I.tuple h;obtain⟨its',r',⟨o',e',_,n',d'⟩,_⟩:=I.tuple h';rw[e] at e';cases e';rw[d] at d';injection d' with d1 _
 have:its=its':=by simpa using congrArg Array.toList d1
 subst this;exact r.inj r'
end
abbrev Cx.wish (X:Cx) (E:Value->Shared->Prop):Cx:={ X with xe:=E }
abbrev Cx.nox (X:Cx):Cx:=X.wish λ_ _=>False
theorem Cx.Ok.wish {X:Cx}(ok:X.Ok)(E:Value->Shared->Prop):(X.wish E).Ok :=
 ⟨ok.mod,ok.kind,ok.glob,ok.blt,ok.above,ok.inj,ok.has,ok.cab,ok.hd,ok.frames,ok.stk,ok.exf,ok.bs,ok.bsz,ok.noex,ok.exfs,ok.funs,ok.frf,ok.pyl,ok.tabs⟩
theorem Cx.Ok.unwish {X:Cx}(ok:(X.wish E).Ok):X.Ok :=
 ⟨ok.mod,ok.kind,ok.glob,ok.blt,ok.above,ok.inj,ok.has,ok.cab,ok.hd,ok.frames,ok.stk,ok.exf,ok.bs,ok.bsz,ok.noex,ok.exfs,ok.funs,ok.frf,ok.pyl,ok.tabs⟩
section
variable {X:Cx}{pins:List (Addr×Obj)}{B:St}{H:Hp}{s:Shared}{E:Value->Shared->Prop}
theorem Inv.wish (I:Inv X pins B H s)(E:Value->Shared->Prop):Inv (X.wish E) pins B H s:=⟨I.ok.wish E,I.os,I.bare,I.base,I.loc,I.cell,I.free,I.freeC,I.pin,I.hok,I.len⟩
theorem Inv.unwish (I:Inv (X.wish E) pins B H s):Inv X pins B H s:=⟨I.ok.unwish,I.os,I.bare,I.base,I.loc,I.cell,I.free,I.freeC,I.pin,I.hok,I.len⟩
theorem SP.unwish (h:SP (X.wish E) pins D f s'):SP X pins D f s':=by
 cases f with
 | next=>obtain⟨B',H',I,q⟩:=h;exact⟨B',H',I.unwish,q⟩
 | brk=>obtain⟨B',H',I,q⟩:=h;exact⟨B',H',I.unwish,q⟩
 | cont=>obtain⟨B',H',I,q⟩:=h;exact⟨B',H',I.unwish,q⟩
 | ret u=>obtain⟨v,B',H',I,r,q⟩:=h;exact⟨v,B',H',I.unwish,r,q⟩
theorem PE.nox (h:PE X.nox e t):PE X e t:=λpins s B H Q I hw =>
 wpAny_mono (h pins s B H Q (I.wish _) hw) (λ_ _ zy117=>by obtain⟨v,H',I',r,q⟩:=zy117;exact⟨v,H',I'.unwish,r,q⟩) λ_ _ z=>False.elim z
theorem PSs.nox {st:List Stmt}(h:PSs X.nox st t):PSs X st t:=λpins s B H D I hw =>
 wpAny_mono (h pins s B H D (I.wish _) hw) (λ_ _ q=>q.unwish) λ_ _ z=>False.elim z
end
section
variable {X:Cx}{st:Stmt}{rest:List Stmt}{t u:TS}{e:Expr}{te:TE}{pos:Pos}
def zTu:TS:=λD B H=>D.nx B H
def tSeq (t u:TS):TS:=λD B H=>t { D with nx:=u D } B H
theorem zGx:PSs X [] zTu:=λ_ _ B H _ I h=>wpAny_execs_nil ⟨B,H,I,h⟩
theorem zFQ (h1:PS X st t)(h2:PSs X rest u):PSs X (st::rest) (tSeq t u):=by
 intro pins s B H D I h;refine wpAny_execs_cons (thn (h1 pins s B H { D with nx:=u D } I h) λf s1 q=>?_);cases f with
 | next =>
  obtain⟨B',H',I',q⟩:=q;exact h2 pins s1 B' H' D I' q
 | ret v=>exact q
 | brk=>exact q
 | cont=>exact q
theorem Inv.quiet {pins:List (Addr×Obj)}{B:St}{H:Hp}{s:Shared}(I:Inv X pins B H s):interactive X.env=false:=by simp[interactive,I.ok.kind]
def zTw (te:TE):TS:=λD B H=>te B H λ_ H1=>D.nx B H1
theorem zFS (he:PE X e te)(hs:swapsWith e none pos.line X.env=pure false:=by rfl):PS X (.Expr e pos) (zTw te):=by
 intro pins s B H D I h;exact wpAny_Expr_any (thn (he pins s B H _ I h) λv s1 zy118=>by obtain⟨x,H1,I1,r1,q1⟩:=zy118;exact⟨B,H1,I1,q1⟩) I.quiet hs
def tRet (te:TE):TS:=λD B H=>te B H D.rt
theorem zJl (he:PE X e te):PS X (.Return (some e) pos) (tRet te):=by
 intro pins s B H D I h;exact wpAny_Return_some (thn (he pins s B H _ I h) λv s1 zy119=>by obtain⟨x,H1,I1,r1,q1⟩:=zy119;exact⟨x,B,H1,I1,r1,q1⟩)
def tIfS (c:TT)(t u:TS):TS:=λD B H=>c B H λb H1=>if b=true then t D B H1 else u D B H1
theorem zRa (hc:PT X c tc)(ha:PSs X a t)(hb:PSs X b u):PS X (.If c a b pos) (tIfS tc t u):=by
 intro pins s B H D I h;refine wpAny_If (thn (hc pins s B H _ I h) λd s1 zz10=>?_);obtain⟨H1,I1,q1⟩:=zz10;cases d with
 | true=>exact ha pins s1 B H1 D I1 q1
 | false=>exact hb pins s1 B H1 D I1 q1
def zRI:TS:=λ_ _ _=>False
theorem zFR:PS X st zRI:=λ_ _ _ _ _ _ h=>h.elim
end
abbrev TG:=V->St->Hp->(St->Hp->Prop)->Prop
def PG (X:Cx)(target:Expr)(t:TG):Prop :=
 ∀ (pins:List (Addr×Obj)) (s:Shared) (B:St) (H:Hp) (v:V) (u:Value) (Q:St->Hp->Prop),Inv X pins B H s->RelV v u->t v B H Q ->
  wpAny (model X.prog X.w) X.A (assign target X.env u) (λ_ s'=>∃ B' H',Inv X pins B' H' s'/\Q B' H') X.xe s
abbrev TIp:=V->V->Hp->VK->Prop
def PIp (X:Cx)(op:Operator)(t:TIp):Prop :=
 ∀ (pins:List (Addr×Obj)) (s:Shared) (B:St) (H:Hp) (x y:V) (v u:Value) (Q:VK),Inv X pins B H s->RelV x v->RelV y u->t x y H Q ->
  wpAny (model X.prog X.w) X.A (inplaceOp op v u) (EP X pins B Q) X.xe s
section
variable {X:Cx}{pos:Pos}
def zTA (i:Nat):TG:=λv B H Q=>Q (B.set i (some v)) H
theorem zFU (hN:X.N.Nodup)(hi:X.N[i]?=some x)(hx:Loc X.env.scope x)(hf:X.fn x=true\/X.env.scope.names.lookup x=some .local:=by first | exact .inl rfl | exact .inr rfl | assumption):PG X (.Name x pos) (zTA i):=by
 intro pins s B H v u Q I r h;exact wpAny_assign_Name (zFH I hN hi hx r (λs' I'=>⟨_,H,I',h⟩) hf)
def tAsg (te:TE)(g:TG):TS:=λD B H=>te B H λx H1=>g x B H1 D.nx
theorem zN7 (hN:X.N.Nodup)(hi:X.N[i]?=some x)(hx:Loc X.env.scope x)(he:PE X e te)(hs:swapsWith e (some (.Name x pos')) pos.line X.env=pure false:=by rfl)(hf:X.fn x=true\/X.env.scope.names.lookup x=some .local:=by first | exact .inl rfl | exact .inr rfl | assumption) :
  PS X (.Assign [.Name x pos'] e pos) (tAsg te (zTA i)):=by
 intro pins s B H D I h;refine wpAny_Assign_Name (thn (he pins s B H _ I h) λv s1 zz11=>?_) hs;obtain⟨y,H1,I1,r1,q1⟩:=zz11;exact zFH I1 hN hi hx r1 (λs2 I2=>⟨_,H1,I2,q1⟩) hf
def tAug (i:Nat)(te:TE)(ti:TIp):TS:=λD B H=>∃ x,B[i]?=some (some x)/\te B H λy H1=>ti x y H1 λz H2=>D.nx (B.set i (some z)) H2
theorem zRc (hN:X.N.Nodup)(hi:X.N[i]?=some x)(hx:Loc X.env.scope x)(he:PE X e te)(ho:PIp X op ti)(hf:X.fn x=true\/X.env.scope.names.lookup x=some .local:=by first | exact .inl rfl | exact .inr rfl | assumption) :
  PS X (.AugAssign (.Name x pos') op e pos) (tAug i te ti):=by
 intro pins s B H D I h;obtain⟨v,e1,h⟩:=h;obtain⟨m,hn,hl⟩:=I.loc;have vis:Vis X.env.scope x:=by rcases hx with k | k;exact .inl k;exact .inr (.inl k)
 obtain⟨u,r,l⟩:=hl i x v hi e1 vis;refine wpAny_AugAssign_Name ?_;have go:wpAny (model X.prog X.w) X.A (eval e X.env) (λw O9=>wpAny (model X.prog X.w) X.A (inplaceOp op u w) (λr Y2=>wpAny (model X.prog X.w) X.A (storeName X.env x r) (λ_=>SP X pins D .next) X.xe Y2) X.xe O9) X.xe s:=by
  refine thn (he pins s B H _ I h) λw s1 zz12=>?_
  obtain⟨y,H1,I1,r1,q1⟩:=zz12;refine thn (ho pins s1 B H1 v y u w _ I1 r r1 q1) λz s2 zz13=>?_
  obtain⟨zv,H2,I2,r2,q2⟩:=zz13;exact zFH I2 hN hi hx r2 (λs3 I3=>⟨_,H2,I3,q2⟩) hf
 rcases l with ⟨hk,hm⟩ | ⟨hk,c,hc,hcell⟩
 .exact wpAny_loadName_local I.ok.kind hk hn hm go
 .rcases hk with hk | hk
  .exact wpAny_loadName_cell I.ok.kind hk hc hcell go
  .rcases hx with k | k
   .have:X.env.scope.names.lookup x=some .free:=hk;rw[k] at this;cases this
   .have:X.env.scope.names.lookup x=some .free:=hk;rw[k] at this;cases this
end
section
variable {X:Cx}{pos:Pos}
def zRF (c:TT)(tb:TS):TS:=λD B H=>∃ W:Nat->St->Hp->Prop,(∃ m,W m B H)/\∀ m B H,W m B H ->
 c B H λb H1=>if b=true then ∃ N:St->Hp->Prop,(∀ B' H',N B' H'->∃ m',m' < m/\W m' B' H')/\tb { D with nx:=N,ct:=N,bk:=D.nx } B H1 else D.nx B H1
theorem zMQ (hp:PassesOwn (model X.prog X.w) X.A X.env X.xe)(hc:PT X c tc)(hb:PSs X body tb):PS X (.While c body [] pos) (zRF tc tb):=by
 intro pins s B H D I h;obtain⟨W,⟨m0,w0⟩,turn⟩:=h;refine wpAny_While (codeAny_whileLoop (λn s'=>∃ B' H',Inv X pins B' H' s'/\W n B' H') ?_ m0 ⟨B,H,I,w0⟩);rintro n s1 ⟨B1,H1,I1,w1⟩;refine wpAny_passesOwn hp (thn (hc pins s1 B1 H1 _ I1 (turn n B1 H1 w1)) λb s2 zz14=>?_);obtain⟨H2,I2,q2⟩:=zz14;cases b with
 | true =>
  obtain⟨N,hN,q2⟩:=q2;rw[if_pos rfl];refine wpAny_passesOwn hp (thn (hb pins s2 B1 H2 _ I2 q2) λf s3 q3=>?_);cases f with
  | next =>
   obtain⟨B3,H3,I3,n3⟩:=q3;obtain⟨m',hm,w3⟩:=hN B3 H3 n3;exact⟨m',hm,B3,H3,I3,w3⟩
  | cont =>
   obtain⟨B3,H3,I3,n3⟩:=q3;obtain⟨m',hm,w3⟩:=hN B3 H3 n3;exact⟨m',hm,B3,H3,I3,w3⟩
  | brk=>exact q3
  | ret v=>exact q3
 | false =>
  rw[if_neg qY];exact wpAny_execs_nil ⟨B1,H2,I2,q2⟩
end
structure It where
 go:Nat->Hp->Prop
 yld:Nat->Hp->V->Hp->Prop
 stop:Nat->Hp->Prop
def FpOk (X:Cx)(pins:List (Addr×Obj))(H:Hp)(b:Addr):Prop :=
 H b=none/\b≠X.env.locals/\b∉X.fs/\(b∈X.ex\/X.s0.heap.objs.size<=b)/\(∀ x c,X.env.cells.lookup x=some c->c≠b)/\∀ p∈X.pn++pins,p.1≠b
theorem Inv.fpOk {X:Cx}{pins:List (Addr×Obj)}{B:St}{H H':Hp}{s:Shared}{b:Addr}(I:Inv X pins B H s)(hb:s.heap.objs.size<=b)(hn:H' b=none):FpOk X pins H' b:=by
 refine⟨hn,Nat.ne_of_gt (xQ I.lt hb),I.nofs hb,.inr (le_trans I.sz hb),λx c e z=>?_,λp hp z=>?_⟩
 .obtain ⟨v,q⟩:=I.cell x c e;exact absurd (xQ q.lt (by rw[z];exact hb)) (lt_irrefl _)
 .exact absurd (xQ (lt_size (I.pin p hp).1) (by rw[z];exact hb)) (lt_irrefl _)
structure Turn (P:Program)(w:World)(K:W.Frag)(tg:Expr)(J:It)(fp:List Addr)(it:Addr)(tn:Nat->Heap->Prop):Prop where
 mem:it∈fp
 obj:∀ i h,tn i h->∀ b∈fp,∃ o,h.get? b=some o/\∀ v,o.data≠.cell v
 keep:∀ i h h',tn i h->(∀ b∈fp,∀ o,h.get? b=some o->h'.get? b=some o)->tn i h'
 item:∀ (X:Cx),X.prog=P->X.w=w->X.K=K->X.calm=true->∀ (i:Nat) (pins:List (Addr×Obj)) (s:Shared) (B:St) (H:Hp) (E:Value->Shared->Prop),Inv X pins B H s->(∀ b∈fp,FpOk X pins H b)->tn i s.heap->J.go i H ->
  wpAny (model P w) X.A (pyNext (.ref it)) (λr s1=>∃ u,r=some u /\
   wpAny (model P w) X.A (letOwnedTupleGo tg (.ref it) u) (λ_ s2=>∃ x H',Inv X pins B H' s2/\RelV x u/\J.yld i H x H'/\tn (i+1) s2.heap/\∀ b∈fp,H' b=none) E s1) E s
 done:∀ (X:Cx),X.prog=P->X.w=w->X.K=K->X.calm=true->∀ (i:Nat) (pins:List (Addr×Obj)) (s:Shared) (B:St) (H:Hp) (E:Value->Shared->Prop),Inv X pins B H s->(∀ b∈fp,FpOk X pins H b)->tn i s.heap->J.stop i H ->
  wpAny (model P w) X.A (pyNext (.ref it)) (λr s1=>r=none/\Inv X pins B H s1) E s
 self:∀ (A:Around) (i:Nat) (s:Shared) (Q:Value->Shared->Prop) (E:Value->Shared->Prop),tn i s.heap->Q (.ref it) s->wpAny (model P w) A (pyIter (.ref it)) Q E s
abbrev TI:=St->Hp->(It->Hp->Prop)->Prop
def PIE (X:Cx)(pins:List (Addr×Obj))(B:St)(tg:Expr)(R:It->Hp->Prop)(itv:Value)(s2:Shared):Prop :=
 ∃ (it:Addr) (fp:List Addr) (tn:Nat->Heap->Prop) (J:It) (H':Hp),itv=.ref it/\Inv X pins B H' s2/\Turn X.prog X.w X.K tg J fp it tn/\tn 0 s2.heap/\(∀ b∈fp,FpOk X pins H' b)/\R J H'
def PI (X:Cx)(tg iter:Expr)(wi:TI):Prop :=
 ∀ (pins:List (Addr×Obj)) (s:Shared) (B:St) (H:Hp) (R:It->Hp->Prop),Inv X pins B H s->wi B H R ->
  wpAny (model X.prog X.w) X.A (eval iter X.env) (λv s1=>wpAny (model X.prog X.w) X.A (pyIter v) (PIE X pins B tg R) X.xe s1) X.xe s
theorem zM4 (ho:s.heap.get? it=some o)(hc:o.cls=.type n)(hd:o.data=.fields vs)
  (hn:["enumerate","zip","dict_itemiterator","dict_reverseitemiterator","odict_iterator","itertools.zip_longest","itertools.pairwise"].contains n=false) (hQ:Q () s):wpAny M A (letOwnedTupleGo tg (.ref it) u) Q E s:=by
 unfold letOwnedTupleGo;cases tg<;>first
  | exact q9 hQ
  | (cases u<;>first
    | exact q9 hQ
    | (refine qX (wpAny_load ho ?_);rw[hc,hd];show wpAny M A (if (["enumerate","zip","dict_itemiterator","dict_reverseitemiterator","odict_iterator","itertools.zip_longest","itertools.pairwise"].contains n&&vs[0]?==some (rawInt _))=true then _ else _) Q E s;rw[if_neg (by intro h;rw[hn,Bool.false_and] at h;cases h)];exact q9 hQ))
def Itl (K:W.Frag)(a:Addr):It :=
 ⟨λi H=>∃ xs x,SqL K H a xs/\xs[i]?=some x,λi H x H'=>H'=H/\∀ xs,SqL K H a xs->xs[i]?=some x,λi H=>∃ xs,SqL K H a xs/\xs.length<=i⟩
def Itt (K:W.Frag)(a:Addr):It :=
 ⟨λi H=>∃ xs x,SqT K H a xs/\xs[i]?=some x,λi H x H'=>H'=H/\∀ xs,SqT K H a xs->xs[i]?=some x,λi H=>∃ xs,SqT K H a xs/\xs.length<=i⟩
def Itr (lo:Int)(n:Nat):It:=⟨λi _=>i < n,λi H x H'=>H'=H/\x=.int (lo+i),λi _=>n<=i⟩
theorem zJD {P:Program}{w:World}{K:W.Frag}{tg:Expr}(a it:Addr):Turn P w K tg (Itl K a) [it] it (λi h=>h.IsListIter it a i) where
 mem:=by simp
 obj:=λi h st b hb=>by
  have e:b=it:=by simpa using hb
  subst e;obtain⟨o,e,c,d⟩:=st;exact⟨o,e,λv z=>by rw[d] at z;cases z⟩
 keep:=λi h h' st k=>st.at λo e=>k it (by simp) o e
 item:=by
  intro X hP hw hK hc i pins s B H E I hf st hg;subst hP hw hK;obtain⟨xs,x,hq,hx⟩:=hg;obtain⟨its,rv,p,hz⟩:=I.list hq;obtain⟨u,hu,ru⟩:=rv.get hx;obtain⟨f0,f1,f2,f3,f4,f5⟩:=hf it (by simp);refine wpAny_pyNext_list_item st p.isList (x:=u) (by simpa using hu) λh' st' sb=>?_
  have I1:Inv X pins B H { s with heap:=h' }:=I.turned (t':=s.toks) (λb o hb e=>(sb.2 b hb).trans e) f0 f1 f3 f4 f5;obtain⟨o,e,c,d⟩:=id st';exact⟨u,rfl,zM4 (s:={ s with heap:=h' }) e c d (by decide) ⟨x,H,I1,ru,⟨rfl,λys hy=>by rw[I.list_inj hy hq];exact hx⟩,st',λb hb=>(hf b hb).1⟩⟩
 done:=by
  intro X hP hw hK hc i pins s B H E I hf st hg;subst hP hw hK;obtain⟨xs,hq,hx⟩:=hg;obtain⟨its,rv,p,hz⟩:=I.list hq;obtain⟨f0,f1,f2,f3,f4,f5⟩:=hf it (by simp);have hl:=rv.length;exact wpAny_pyNext_list_end (I.ok.hd hc) st p.isList (by simp;omega) λh' eb=>⟨rfl,I.turned (t':=s.toks) (λb o hb e=>eb b o hb e) f0 f1 f3 f4 f5⟩
 self:=λ_ _ _ _ _ st h=>wpAny_pyIter_listiter st h
theorem zIS {P:Program}{w:World}{K:W.Frag}{tg:Expr}(a it:Addr):Turn P w K tg (Itt K a) [it] it (λi h=>h.IsTupleIter it a i) where
 mem:=by simp
 obj:=λi h st b hb=>by
  have e:b=it:=by simpa using hb
  subst e;obtain⟨o,e,c,d⟩:=st;exact⟨o,e,λv z=>by rw[d] at z;cases z⟩
 keep:=λi h h' st k=>st.at λo e=>k it (by simp) o e
 item:=by
  intro X hP hw hK hc i pins s B H E I hf st hg;subst hP hw hK;obtain⟨xs,x,hq,hx⟩:=hg;obtain⟨its,rv,p,hz⟩:=I.tuple hq;obtain⟨u,hu,ru⟩:=rv.get hx;obtain⟨f0,f1,f2,f3,f4,f5⟩:=hf it (by simp);refine wpAny_pyNext_tuple_item st (show s.heap.IsTuple a its.toArray from p) (x:=u) (by simpa using hu) λh' st' sb=>?_
  have I1:Inv X pins B H { s with heap:=h' }:=I.turned (t':=s.toks) (λb o hb e=>(sb.2 b hb).trans e) f0 f1 f3 f4 f5;obtain⟨o,e,c,d⟩:=id st';exact⟨u,rfl,zM4 (s:={ s with heap:=h' }) e c d (by decide) ⟨x,H,I1,ru,⟨rfl,λys hy=>by rw[I.tuple_inj hy hq];exact hx⟩,st',λb hb=>(hf b hb).1⟩⟩
 done:=by
  intro X hP hw hK hc i pins s B H E I hf st hg;subst hP hw hK;obtain⟨xs,hq,hx⟩:=hg;obtain⟨its,rv,p,hz⟩:=I.tuple hq;obtain⟨f0,f1,f2,f3,f4,f5⟩:=hf it (by simp);have hl:=rv.length;exact wpAny_pyNext_tuple_end (I.ok.hd hc) st (show s.heap.IsTuple a its.toArray from p) (by simp;omega) λh' eb=>⟨rfl,I.turned (t':=s.toks) (λb o hb e=>eb b o hb e) f0 f1 f3 f4 f5⟩
 self:=λ_ _ _ _ _ st h=>wpAny_pyIter_tupleiter st h
theorem zIT {P:Program}{w:World}{K:W.Frag}{tg:Expr}(it:Addr)(lo:Int)(n:Nat):Turn P w K tg (Itr lo n) [it] it (λi h=>IsRangeIter h it (lo+(i:Nat)*1) ((n:Int) - (i:Nat)) 1) where
 mem:=by simp
 obj:=λi h st b hb=>by
  have e:b=it:=by simpa using hb
  subst e;exact⟨_,st,λv z=>by
   have z':Data.fields _=Data.cell v:=z;cases z'⟩
 keep:=λi h h' st k=>k it (by simp) _ st
 item:=by
  intro X hP hw hK hc i pins s B H E I hf st hg;subst hP hw hK;obtain⟨f0,f1,f2,f3,f4,f5⟩:=hf it (by simp);have W:=Walks.range (prog:=X.prog) (w:=X.w) (I.ok.hd hc) it lo 1 n;refine W.item i s _ _ hg st λv h' tk hv st' kk=>?_
  obtain⟨t,rfl⟩:=hv;have I1:Inv X pins B H { s with heap:=h',toks:=tk }:=I.turned (λb o hb e=>kk b o (by simpa using hb) e) f0 f1 f3 f4 f5;refine⟨_,rfl,zM4 (s:={ s with heap:=h',toks:=tk }) (n := "range_iterator") st' rfl rfl (by decide) ⟨.int (lo+i),H,I1,⟨t,?_⟩,⟨rfl,rfl⟩,st',λb hb=>(hf b hb).1⟩⟩;rw[Int.mul_one]
 done:=by
  intro X hP hw hK hc i pins s B H E I hf st hg;subst hP hw hK;obtain⟨f0,f1,f2,f3,f4,f5⟩:=hf it (by simp);exact wpAny_pyNext_range_end (I.ok.hd hc) st (by have:n<=i:=hg;omega) λh' eb=>⟨rfl,I.turned (t':=s.toks) (λb o hb e=>eb b o hb e) f0 f1 f3 f4 f5⟩
 self:=λ_ _ _ _ _ st h=>wpAny_pyIter_rangeiter st h
section
variable {X:Cx}{tg:Expr}
theorem zHk {pins:List (Addr×Obj)}{B:St}{H:Hp}{s:Shared}{R:It->Hp->Prop}{E:Value->Shared->Prop}{lo hi:Int}{t u v:Tok}{tk:Nat}(I:Inv X pins B H s)(h1:-(2^62)<=lo)(h2:lo < 2^62)(h3:-(2^62)<=hi)(h4:hi < 2^62)
  (q:R (Itr lo (hi - lo).toNat) H):wpAny (model X.prog X.w) X.A (pyIter (.ref s.heap.objs.size)) (PIE X pins B tg R) E { s with heap:=s.heap.push { cls:=.type "range",data:=.fields #[.int lo t,.int hi u,.int 1 v] },toks:=tk }:=by
 refine wpAny_pyIter_range (IsRange.new ..) (small_one h1 h2 h3 h4) ?_;have I1:Inv X pins B H { s with heap:=s.heap.push { cls:=.type "range",data:=.fields #[.int lo t,.int hi u,.int 1 v] },toks:=tk }:=I.kept λb o e=>get?_push_of_some _ e
 refine⟨(s.heap.push { cls:=.type "range",data:=.fields #[.int lo t,.int hi u,.int 1 v] }).objs.size,[(s.heap.push { cls:=.type "range",data:=.fields #[.int lo t,.int hi u,.int 1 v] }).objs.size],_,_,H,rfl,
  I1.kept (t':=tk) λb o e=>get?_push_of_some _ e,zIT _ lo (hi - lo).toNat,?_,λb hb=>?_,q⟩
 .have e1:lo+((0:Nat):Int)*1=lo:=by simp
  have e2:(((hi - lo).toNat:Nat):Int) - ((0:Nat):Int)=Builtin.Range.rangeSize lo hi 1:=by rw[rangeSize_one];split<;>omega
  show IsRangeIter _ _ (lo+((0:Nat):Int)*1) ((((hi - lo).toNat:Nat):Int) - ((0:Nat):Int)) 1;rw[e1,e2];exact get?_push_size _ rfl
 .have e:b=(s.heap.push { cls:=.type "range",data:=.fields #[.int lo t,.int hi u,.int 1 v] }).objs.size:=by simpa using hb
  subst e;exact I1.fpOk (le_refl _) (I1.hok.fresh (le_refl _))
def zUM (ta:TA):TI:=λB H R=>ta B H λvs H1=>∃ j:Int,vs=[.int j]/\-(2^62)<=j/\j < 2^62/\R (Itr 0 j.toNat) H1
def zUL (ta:TA):TI:=λB H R=>ta B H λvs H1=>∃ i j:Int,vs=[.int i,.int j]/\(-(2^62)<=i/\i < 2^62/\-(2^62)<=j/\j < 2^62)/\R (Itr i (j - i).toNat) H1
theorem zGB (hg:Gl X "range")(hm:X.mg "range"=none)(ha:PA X [a] ta)(hs:starEach [a] X.env=[(false,eval a X.env)]:=by rfl):PI X tg (.Call (.Name "range" p) [a] [] pos) (zUM ta):=by
 intro pins s B H R I h;refine Call_ (zCv I hg hm boot_range (PyProof.Rows.callWith_type1 (thn (ha pos pins s B H _ I h) λus s1 zz15=>?_) hs rfl));obtain⟨vs,H1,I1,r1,q1⟩:=zz15;obtain⟨j,e,q1,q2,q⟩:=q1;subst e;cases r1 with
 | cons r rr =>
  cases rr;obtain⟨t,rfl⟩:=r;exact call_range_1 (zHk I1 (by omega) (by omega) q1 q2 (by simpa using q))
theorem zGA {a b:Expr}{ta:TA}{p pos:Pos}(hg:Gl X "range")(hm:X.mg "range"=none)(ha:PA X [a,b] ta)(hs:starEach [a,b] X.env=[(false,eval a X.env),(false,eval b X.env)]:=by rfl)(hs2:starEach [b] X.env=[(false,eval b X.env)]:=by rfl) :
  PI X tg (.Call (.Name "range" p) [a,b] [] pos) (zUL ta):=by
 intro pins s B H R I h;refine Call_ (zCv I hg hm boot_range (PyProof.Rows.callWith_type1 (thn (ha pos pins s B H _ I h) λus s1 zz16=>?_) (by rw[hs,hs2]) (by rw[hs2];rfl)));obtain⟨vs,H1,I1,r1,q1⟩:=zz16;obtain⟨i,j,e,⟨q1,q2,q3,q4⟩,q⟩:=q1;subst e;cases r1 with
 | cons r rr =>
  cases rr with
  | cons r' rr =>
   cases rr;obtain⟨t,rfl⟩:=r;obtain⟨t',rfl⟩:=r';exact call_range_2 (zHk I1 q1 q2 q3 q4 q)
def tFor (wi:TI)(g:TG)(tb:TS):TS:=λD B H=>wi B H λJ H1=>∃ W:Nat->Nat->St->Hp->Prop,(∃ m,W 0 m B H1)/\∀ i m B H,W i m B H ->
 (J.stop i H/\D.nx B H)\/(J.go i H/\∃ N:St->Hp->Prop,(∀ B' H',N B' H'->∃ m',m' < m/\W (i+1) m' B' H')/\∀ x H',J.yld i H x H'->g x B H' λB2 H2=>tb { D with nx:=N,ct:=N,bk:=D.nx } B2 H2)
def zBG (fp:List Addr)(h:Heap):List (Addr×Obj):=fp.filterMap λb=>(h.get? b).map λo=>(b,o)
theorem zBh (hb:b∈fp)(e:h.get? b=some o):(b,o)∈zBG fp h:=List.mem_filterMap.mpr ⟨b,hb,by rw[e];rfl⟩
theorem zEF (hp:p∈zBG fp h):p.1∈fp/\h.get? p.1=some p.2:=by
 obtain⟨b,hb,e⟩:=List.mem_filterMap.mp hp;cases q:h.get? b with
 | none=>rw[q] at e;cases e
 | some o =>
  rw[q] at e;have e':(b,o)=p:=xj e;subst e';exact⟨hb,q⟩
theorem Inv.pinned {pins:List (Addr×Obj)}{B:St}{H:Hp}{s:Shared}{fp:List Addr}(I:Inv X pins B H s)(hf:∀ b∈fp,FpOk X pins H b)(ho:∀ b∈fp,∃ o,s.heap.get? b=some o/\∀ v,o.data≠.cell v):Inv X (pins++zBG fp s.heap) B H s :=
 I.pins_of λp hp=>(mem_append.mp hp).elim (λz=>I.pin p (xq _ z)) λz=>by
  obtain⟨hb,e⟩:=zEF z;obtain⟨f0,f1,f2,_⟩:=hf p.1 hb;obtain⟨o,e',d⟩:=ho p.1 hb;rw[e] at e';cases e';exact⟨e,f0,f1,f2,d⟩
theorem Inv.unpinned {pins pl:List (Addr×Obj)}{B:St}{H:Hp}{s:Shared}(I:Inv X (pins++pl) B H s):Inv X pins B H s:=I.pins_of λp hp=>I.pin p (xq _ (List.mem_append_left _ hp))
theorem zN8 (hp:PassesOwn (model X.prog X.w) X.A X.env X.xe)(hc:X.calm=true)(hi:PI X tg iter wi)(hg:PG X tg g)(hb:PSs X body tb)
  (hs:∀ x,foldedSetIterable iter X.env x=pure x:=by intro _;rfl):PS X (.For tg iter body [] pos) (tFor wi g tb):=by
 intro pins s B H D I h;refine wpAny_For (thn (hi pins s B H _ I h) λv s1 h1=>thn h1 λitv s2 h2=>?_) hs;obtain⟨it,fp,tn,J,H2,e,I2,T,st2,f2,W,⟨m0,w0⟩,turn⟩:=h2;subst e;have stat:∀ {H':Hp},(∀ b∈fp,H' b=none)->∀ b∈fp,FpOk X pins H' b:=λhn b hb=>⟨hn b hb,(f2 b hb).2⟩
 refine codeAny_forLoop_any (λn s'=>∃ i B' H',Inv X pins B' H' s'/\tn i s'.heap/\(∀ b∈fp,H' b=none)/\W i n B' H') ?_ m0 ⟨0,B,H2,I2,st2,λb hb=>(f2 b hb).1,w0⟩;rintro n s3 ⟨i,B3,H3,I3,st3,fr3,w3⟩;rcases turn i n B3 H3 w3 with ⟨stop,qn⟩ | ⟨go,N,hN,step⟩
 .refine wpAny_passesOwn hp (thn (T.done X rfl rfl rfl hc i pins s3 B3 H3 X.xe I3 (stat fr3) st3 stop) λr s4 zz17=>?_);obtain⟨hr,I4⟩:=zz17;subst hr;exact wpAny_execs_nil ⟨B3,H3,I4,qn⟩
 .refine wpAny_passesOwn hp (thn (T.item X rfl rfl rfl hc i pins s3 B3 H3 X.xe I3 (stat fr3) st3 go) λr s4 zz18=>?_);obtain⟨u,hr,h4⟩:=zz18;subst hr;refine wpAny_passesOwn hp (thn h4 λ_ s5 zz19=>?_);obtain⟨x,H5,I5,r5,y5,st5,fr5⟩:=zz19;have I5':=I5.pinned (stat fr5) (T.obj _ _ st5);refine wpAny_passesOwn hp (thn (hg _ s5 B3 H5 x u _ I5' r5 (step x H5 y5)) λ_ s6 zz20=>?_);obtain⟨B6,H6,I6,q6⟩:=zz20;refine wpAny_passesOwn hp (thn (hb _ s6 B6 H6 _ I6 q6) λf s7 q7=>?_);have again:∀ {B7:St} {H7:Hp},Inv X (pins++zBG fp s5.heap) B7 H7 s7->N B7 H7->∃ m,m < n/\∃ i B' H',Inv X pins B' H' s7/\tn i s7.heap/\(∀ b∈fp,H' b=none)/\W i m B' H':=λ{B7 H7} I7 n7=>by
   obtain⟨m',hm,w7⟩:=hN B7 H7 n7;refine⟨m',hm,i+1,B7,H7,I7.unpinned,T.keep _ _ _ st5 λb hb o e=>(I7.pin (b,o) (xq _ (xq _ (zBh hb e)))).1,λb hb=>?_,w7⟩;obtain⟨o,e,d⟩:=T.obj _ _ st5 b hb;exact(I7.pin (b,o) (xq _ (xq _ (zBh hb e)))).2.1
  cases f with
  | next=>obtain⟨B7,H7,I7,n7⟩:=q7;exact again I7 n7
  | cont=>obtain⟨B7,H7,I7,n7⟩:=q7;exact again I7 n7
  | brk=>obtain⟨B7,H7,I7,q7⟩:=q7;exact⟨B7,H7,I7.unpinned,q7⟩
  | ret v=>obtain⟨x7,B7,H7,I7,r7,q7⟩:=q7;exact⟨x7,B7,H7,I7.unpinned,r7,q7⟩
end
abbrev R2:=V->V->Hp->VK->Prop
def OpR (X:Cx)(f:Value->Value->Sem Value)(r:R2):Prop :=
 ∀ (pins:List (Addr×Obj)) (s:Shared) (B:St) (H:Hp) (x y:V) (v u:Value) (Q:VK),Inv X pins B H s->RelV x v->RelV y u->r x y H Q ->
  wpAny (model X.prog X.w) X.A (f v u) (EP X pins B Q) X.xe s
def UnR (X:Cx)(f:Value->Sem Value)(r:V->Hp->VK->Prop):Prop :=
 ∀ (pins:List (Addr×Obj)) (s:Shared) (B:St) (H:Hp) (x:V) (v:Value) (Q:VK),Inv X pins B H s->RelV x v->r x H Q ->
  wpAny (model X.prog X.w) X.A (f v) (EP X pins B Q) X.xe s
def zDv (X:Cx)(f:Value)(r:List V->Hp->VK->Prop):Prop :=
 ∀ (pins:List (Addr×Obj)) (s:Shared) (B:St) (H:Hp) (xs:List V) (us:List Value) (Q:VK),Inv X pins B H s->Vals xs us->r xs H Q ->
  wpAny (model X.prog X.w) X.A (call f us) (EP X pins B Q) X.xe s
def tOp (r:R2)(ta tb:TE):TE:=λB H Q=>ta B H λx H1=>tb B H1 λy H2=>r x y H2 Q
def tUn (r:V->Hp->VK->Prop)(ta:TE):TE:=λB H Q=>ta B H λx H1=>r x H1 Q
def rI (C:Int->Int->Prop)(g:Int->Int->V):R2:=λx y H Q=>∃ i j,x=.int i/\y=.int j/\C i j/\Q (g i j) H
def rI0 (g:Int->Int->V):R2:=λx y H Q=>∃ i j,x=.int i/\y=.int j/\Q (g i j) H
def rU (g:Int->V):V->Hp->VK->Prop:=λx H Q=>∃ i,x=.int i/\Q (g i) H
section
variable {X:Cx}{a b c:Expr}{ta tb tc:TE}{pos:Pos}
theorem binT (ha:PE X a ta)(hb:PE X b tb){pins:List (Addr×Obj)}{s:Shared}{B:St}{H:Hp}{R:V->V->Hp->Prop}(I:Inv X pins B H s)
  (h:ta B H λx H1=>tb B H1 λy H2=>R x y H2) {Q:Value->Shared->Prop} {f:Value->Value->Sem Value}
  (hf:∀ v u s2 x y H2,Inv X pins B H2 s2->RelV x v->RelV y u->R x y H2->wpAny (model X.prog X.w) X.A (f v u) Q X.xe s2) :
  wpAny (model X.prog X.w) X.A (eval a X.env) (λv O2=>wpAny (model X.prog X.w) X.A (eval b X.env) (λu O9=>wpAny (model X.prog X.w) X.A (f v u) Q X.xe O9) X.xe O2) X.xe s:=by
 refine thn (ha pins s B H _ I h) λv s1 zz21=>?_
 obtain⟨x,H1,I1,r1,q1⟩:=zz21;refine thn (hb pins s1 B H1 _ I1 q1) λu s2 zz22=>?_
 obtain⟨y,H2,I2,r2,q2⟩:=zz22;exact hf v u s2 x y H2 I2 r1 r2 q2
theorem zT1 (ho:OpR X (binaryOp op) r)(ha:PE X a ta)(hb:PE X b tb):PE X (.BinOp a op b pos) (tOp r ta tb):=by
 intro pins s B H Q I h;exact wpAny_BinOp (binT ha hb I h λv u s2 x y H2 I2 rx ry q=>ho pins s2 B H2 x y v u Q I2 rx ry q)
theorem zTz (ho:UnR X (unaryOp op) r)(ha:PE X a ta):PE X (.UnaryOp op a pos) (tUn r ta):=by
 intro pins s B H Q I h;exact UnaryOp_ (thn (ha pins s B H _ I h) λv s1 zy120=>by obtain⟨x,H1,I1,r1,q1⟩:=zy120;exact ho pins s1 B H1 x v Q I1 r1 q1)
theorem opI {g:Int->Int->Int}
  (rule:∀ (i j:Int) (t u:Tok) (s:Shared) (Q:Value->Shared->Prop) (E:Value->Shared->Prop),C i j->Q (.int (g i j) s.toks) { s with toks:=s.toks+1 }->wpAny (model X.prog X.w) X.A (f (.int i t) (.int j u)) Q E s) :
  OpR X f (rI C λi j=>.int (g i j)):=by
 intro pins s B H x y v u Q I rx ry h;obtain⟨i,j,rfl,rfl,hc,q⟩:=h;obtain⟨t,rfl⟩:=rx;obtain⟨t',rfl⟩:=ry;exact rule i j t t' s _ _ hc ⟨.int (g i j),H,I.tok _,⟨_,rfl⟩,q⟩
theorem opI0 {g:Int->Int->Int}
  (rule:∀ (i j:Int) (t u:Tok) (s:Shared) (Q:Value->Shared->Prop) (E:Value->Shared->Prop),Q (.int (g i j) s.toks) { s with toks:=s.toks+1 }->wpAny (model X.prog X.w) X.A (f (.int i t) (.int j u)) Q E s) :
  OpR X f (rI0 λi j=>.int (g i j)):=by
 intro pins s B H x y v u Q I rx ry h;obtain⟨i,j,rfl,rfl,q⟩:=h;obtain⟨t,rfl⟩:=rx;obtain⟨t',rfl⟩:=ry;exact rule i j t t' s _ _ ⟨.int (g i j),H,I.tok _,⟨_,rfl⟩,q⟩
theorem opB0 {g:Int->Int->Bool}
  (rule:∀ (i j:Int) (t u:Tok) (s:Shared) (Q:Value->Shared->Prop) (E:Value->Shared->Prop),Q (.bool (g i j)) s->wpAny (model X.prog X.w) X.A (f (.int i t) (.int j u)) Q E s) :
  OpR X f (rI0 λi j=>.bl (g i j)):=by
 intro pins s B H x y v u Q I rx ry h;obtain⟨i,j,rfl,rfl,q⟩:=h;obtain⟨t,rfl⟩:=rx;obtain⟨t',rfl⟩:=ry;exact rule i j t t' s _ _ ⟨.bl (g i j),H,I,rfl,q⟩
def CPow (i j:Int):Prop:=0<=j/\j<=1000000/\i.natAbs < 2^64
def CMul (i j:Int):Prop:=(-(2^64) < i/\i < 2^64)\/(-(2^64) < j/\j < 2^64)
theorem CMul.ok (h:CMul i j):IntMulOk i j:=by
 rcases h with ⟨h1,h2⟩ | ⟨h1,h2⟩
 .exact .of_left (intBits_le_64 h1 h2)
 .exact .of_right (intBits_le_64 h1 h2)
theorem zR2:OpR X (binaryOp .Add) (rI0 λi j=>.int (i+j)):=opI0 λ_ _ _ _ _ _ _ q=>add_int q
theorem zRr:OpR X (binaryOp .Sub) (rI0 λi j=>.int (i - j)):=opI0 λ_ _ _ _ _ _ _ q=>sub_int q
theorem zPR:OpR X (binaryOp .Mod) (rI (λ_ j=>j≠0) λi j=>.int (i.fmod j)):=opI λ_ _ _ _ _ _ _ hc q=>mod_int' hc q
theorem zRt:OpR X (binaryOp .Pow) (rI CPow λi j=>.int (i^j.toNat)):=opI λ_ _ _ _ _ _ _ hc q=>pow_int_small hc.1 hc.2.1 hc.2.2 q
theorem zPx:OpR X (inplaceOp .Add) (rI0 λi j=>.int (i+j)):=opI0 λ_ _ _ _ _ _ _ q=>iadd_int q
theorem zPw:OpR X (inplaceOp .Sub) (rI0 λi j=>.int (i - j)):=opI0 λ_ _ _ _ _ _ _ q=>isub_int q
theorem unI {g:Int->Int}
  (rule:∀ (i:Int) (t:Tok) (s:Shared) (Q:Value->Shared->Prop) (E:Value->Shared->Prop),Q (.int (g i) s.toks) { s with toks:=s.toks+1 }->wpAny (model X.prog X.w) X.A (f (.int i t)) Q E s) :
  UnR X f (rU λi=>.int (g i)):=by
 intro pins s B H x v Q I rx h;obtain⟨i,rfl,q⟩:=h;obtain⟨t,rfl⟩:=rx;exact rule i t s _ _ ⟨.int (g i),H,I.tok _,⟨_,rfl⟩,q⟩
theorem zRD:UnR X (unaryOp .USub) (rU λi=>.int (-i)):=unI λ_ _ _ _ _ q=>neg_int q
end
section
variable {X:Cx}{a b c:Expr}{ta tb tc:TE}{pos:Pos}
theorem zOV {pins:List (Addr×Obj)}{B:St}{H:Hp}{s:Shared}{Q:VK}{k k':Bool}(I:Inv X pins B H s)(q:Q (.bl k) H)(e:k=k'):EP X pins B Q (.bool k') s:=by
 subst e;exact⟨.bl k,H,I,rfl,q⟩
theorem zRv:OpR X (compareOp .Lt) (rI0 λi j=>.bl (decide (i < j))):=opB0 λ_ _ _ _ _ _ _ q=>lt_int q
theorem zRw:OpR X (compareOp .LtE) (rI0 λi j=>.bl (decide (i<=j))):=opB0 λ_ _ _ _ _ _ _ q=>le_int q
theorem zRy:OpR X (compareOp .Gt) (rI0 λi j=>.bl (decide (j < i))):=opB0 λ_ _ _ _ _ _ _ q=>gt_int q
theorem zR0:OpR X (compareOp .GtE) (rI0 λi j=>.bl (decide (j<=i))):=opB0 λ_ _ _ _ _ _ _ q=>ge_int q
theorem zRx:OpR X (compareOp .Is) (λx y H Q=>y=.non/\Q (.bl (decide (x=.non))) H):=by
 intro pins s B H x y v u Q I rx ry h;obtain⟨rfl,q⟩:=h;cases ry;refine is_none_gen (zOV I q ?_);cases x<;>first
  | (cases rx;rfl)
  | (obtain⟨t,rfl⟩:=rx;rfl)
theorem zPP:OpR X (compareOp .IsNot) (λx y H Q=>y=.non/\Q (.bl (!decide (x=.non))) H):=by
 intro pins s B H x y v u Q I rx ry h;obtain⟨rfl,q⟩:=h;cases ry;refine isnot_none_gen (zOV I q ?_);cases x<;>first
  | (cases rx;rfl)
  | (obtain⟨t,rfl⟩:=rx;rfl)
theorem OpR.or (h:OpR X f r)(h':OpR X f r'):OpR X f (λx y H Q=>r x y H Q\/r' x y H Q):=by
 intro pins s B H x y v u Q I rx ry q;rcases q with q | q
 .exact h pins s B H x y v u Q I rx ry q
 .exact h' pins s B H x y v u Q I rx ry q
theorem zDB (b:Expr)(h:op≠.In:=by decide)(h2:op≠.NotIn:=by decide):behindInMarks op b=false:=by
 have e1:(op==CmpOp.In)=false:=by cases op<;>first | rfl | exact absurd rfl h
 have e2:(op==CmpOp.NotIn)=false:=by cases op<;>first | rfl | exact absurd rfl h2
 cases b<;>simp[behindInMarks,e1,e2]
theorem zPG (ho:OpR X (compareOp op) r)(ha:PE X a ta)(hb:PE X b tb)(hm:behindInMarks op b=false):PE X (.Compare a [op] [b] pos) (tOp r ta tb):=by
 intro pins s B H Q I h;exact wpAny_Compare1 (binT ha hb I h λv u s2 x y H2 I2 rx ry q=>ho pins s2 B H2 x y v u Q I2 rx ry q) hm
def zRG (t:TE):TT:=λB H Q=>t B H λx H'=>∃ k,x=.bl k/\Q k H'
theorem zO7 (ho:OpR X (compareOp op) r)(ha:PE X a ta)(hb:PE X b tb)(hm:behindInMarks op b=false):PT X (.Compare a [op] [b] pos) (zRG (tOp r ta tb)):=by
 intro pins s B H Q I h;refine wpAny_isTrue_Compare1 (thn (ha pins s B H _ I h) λv s1 ⟨x,H1,I1,r1,q1⟩=>thn (hb pins s1 B H1 _ I1 q1) λu s2 ⟨y,H2,I2,r2,q2⟩ =>
  thn (ho pins s2 B H2 x y v u _ I2 r1 r2 q2) λc s3 ⟨z,H3,I3,r3,k,e,q3⟩=>?_) hm
 subst e;cases r3;exact wpAny_truthy_bool ⟨H3,I3,q3⟩
def zJI (r r':R2)(ta tb tc:TE):TE:=λB H Q=>ta B H λx H1=>tb B H1 λy H2=>r x y H2 λz H3=>∃ k,z=.bl k /\
 (if k=true then tc B H3 λw' H4=>r' y w' H4 Q else Q (.bl false) H3)
theorem zMU (ho:OpR X (compareOp op) r)(ho':OpR X (compareOp op') r')(ha:PE X a ta)(hb:PE X b tb)(hc:PE X c tc)
  (hm:lastMarks [op,op'] [b,c]=false:=by with_unfolding_all rfl):PE X (.Compare a [op,op'] [b,c] pos) (zJI r r' ta tb tc):=by
 intro pins s B H Q I h;refine Compare_chain (thn (ha pins s B H _ I h) λv s1 ⟨x,H1,I1,r1,q1⟩=>chain_link (thn (hb pins s1 B H1 _ I1 q1) λu s2 ⟨y,H2,I2,r2,q2⟩ =>
  thn (ho pins s2 B H2 x y v u _ I2 r1 r2 q2) λd s3 ⟨z,H3,I3,r3,k,e,q3⟩=>?_)) hm
 subst e;cases r3;refine wpAny_truthy_bool ?_;cases k with
 | false=>exact ite_ff ⟨.bl false,H3,I3,rfl,q3⟩
 | true=>exact ite_tt (chain_last (thn (hc pins s3 B H3 _ I3 q3) λw' s4 zy121=>by obtain⟨z',H4,I4,r4,q4⟩:=zy121;exact ho' pins s4 B H4 y z' u w' Q I4 r2 r4 q4))
theorem zMP (ho:OpR X (compareOp op) r)(ho':OpR X (compareOp op') r')(ha:PE X a ta)(hb:PE X b tb)(hc:PE X c tc)
  (hm:lastMarks [op,op'] [b,c]=false:=by with_unfolding_all rfl):PT X (.Compare a [op,op'] [b,c] pos) (zRG (zJI r r' ta tb tc)):=by
 intro pins s B H Q I h;refine isTrue_chain (thn (ha pins s B H _ I h) λv s1 ⟨x,H1,I1,r1,q1⟩=>test_link (thn (hb pins s1 B H1 _ I1 q1) λu s2 ⟨y,H2,I2,r2,q2⟩ =>
  thn (ho pins s2 B H2 x y v u _ I2 r1 r2 q2) λd s3 ⟨z,H3,I3,r3,k,e,q3⟩=>?_)) hm
 subst e;cases r3;refine wpAny_truthy_bool ?_;cases k with
 | false =>
  obtain⟨k',e',q'⟩:=q3;cases e';exact ite_ff ⟨H3,I3,q'⟩
 | true =>
  refine ite_tt (test_last (thn (hc pins s3 B H3 _ I3 q3) λw' s4 ⟨z',H4,I4,r4,q4⟩=>thn (ho' pins s4 B H4 y z' u w' _ I4 r2 r4 q4) λd' s5 zz23=>?_));obtain⟨z2,H5,I5,r5,k2,e2,q5⟩:=zz23;subst e2;cases r5;exact wpAny_truthy_bool ⟨H5,I5,q5⟩
theorem zKX:(sizeLine:Nat) < 2^63:=by rw[sizeLine_eq];decide
theorem zGm (r:Vals [x] us):∃ u,us=[u]/\RelV x u:=by
 cases r with
 | cons r1 r2=>cases r2;exact⟨_,rfl,r1⟩
theorem zMA (r:Vals [x,y] us):∃ u w',us=[u,w']/\RelV x u/\RelV y w':=by
 cases r with
 | cons r1 r2 =>
  cases r2 with
  | cons r3 r4=>cases r4;exact⟨_,_,rfl,r1,r3⟩
theorem zNf:zDv X (.builtin "abs") (λxs H Q=>∃ i,xs=[.int i]/\Q (.int (if i < 0 then -i else i)) H):=by
 intro pins s B H xs us Q I r h;obtain⟨i,rfl,q⟩:=h;obtain⟨u,rfl,t,rfl⟩:=zGm r;exact call_abs_int λu tk=>⟨.int (if i < 0 then -i else i),H,I.tok _,⟨_,rfl⟩,q⟩
theorem zLg (hc:X.calm=true):zDv X (.builtin "max") (λxs H Q=>∃ i j,xs=[.int i,.int j]/\Q (.int (if j>i then j else i)) H):=by
 intro pins s B H xs us Q I r h;obtain⟨i,j,rfl,q⟩:=h;obtain⟨u,w',rfl,⟨t,rfl⟩,⟨t',rfl⟩⟩:=zMA r;refine max_two_ints (I.ok.hd hc) λh' tk k=>⟨_,H,I.kept k,?_,q⟩
 by_cases hj:j>i
 .rw [if_pos hj,if_pos hj];exact⟨_,rfl⟩
 .rw [if_neg hj,if_neg hj];exact⟨_,rfl⟩
end
structure ObjM (h:Heap)(x dx C:Addr)(mA:Str->Option Value):Prop where
 obj:h.get? x=some (W.instObj C dx)
 ns:h.Ns1 dx mA
 ne:dx≠x
theorem zKS {h:Heap}(n:h.Ns1 dx mA):∃ od,h.get? dx=some od/\∀ name,W.lookIn name od=some (mA name):=by
 obtain⟨o,es,ep,ho,hd,hk,_,hm⟩:=n;refine⟨o,ho,λname=>?_⟩;have e:=hm name;unfold nsFind findBy at e;rw[<- Array.find?_toList] at e;unfold W.lookIn;rw[hd];dsimp only;split
 .rename_i y q;rw[q] at e;exact congrArg some e
 .rename_i q;rw[q] at e;have a:es.toList.any (·.refKey)=false:=by
   rw[List.any_eq_false];intro y hy;obtain⟨z,t,hkey⟩:=hk y (Array.mem_toList_iff.mp hy);simp[DictEntry.refKey,hkey]
  have a':¬ es.toList.any (·.refKey)=true:=by rw[a];exact qY
  rw[if_neg a'];exact congrArg some e
theorem ObjM.look (I:ObjM h x dx C mA):∃ od,W.InstAt h x (W.instObj C dx) C (some od)/\∀ name,W.lookIn name od=some (mA name) :=
 let ⟨od,ho,hl⟩:=zKS I.ns
 ⟨od,⟨I.obj,rfl,rfl,ho⟩,hl⟩
section
variable {prog:Program}{w:World}{A:Around}{E:Value->Shared->Prop}{s:Shared}{K:W.Frag}{x dx C f:Addr}{mA:Str->Option Value}{name:Str}{v:Value}
theorem zQH (X:K.In s.heap)(I:ObjM s.heap x dx C mA)(hg:W.plainGet K C name=true)(hh:W.hasDictIn K C=true)
  (ha:W.findIn K (.ref C) name=some none) (hv:mA name=some v) (hv':W.handedIn v=true) (h:Q v { s with toks:=s.toks+1 }) :
  wpAny (model prog w) A (getAttr (.ref x) name expr) Q E s:=by
 obtain⟨od,J,hl⟩:=I.look;exact W.get_value X J (W.plainGet_of hg).1 (W.findObj_own hh ha rfl (by rw[hl,hv])) hv' h
theorem zM5 (X:K.In s.heap)(I:ObjM s.heap x dx C mA)(hg:W.plainGet K C name=true)
  (hf:W.findIn K (.ref C) name=some (some (.ref f))) (ht:W.isFn K (.ref f)=true) (hv:mA name=none) (h:Q (.ref f,[.ref x]) s) :
  wpAny (model prog w) A (getMethod (.ref x) name pl) Q E s:=by
 obtain⟨od,J,hl⟩:=I.look;exact W.method_fn X J (W.plainGet_of hg).1 (W.plainGet_of hg).2 hf (beq_iff_eq.mp ht) (by show (W.lookIn name od).map (·.isSome)=some false;rw[hl,hv];rfl) h
theorem zOx (X:K.In s.heap)(I:ObjM s.heap x dx C mA)
  (hs:W.findIn K (.ref C) "__setattr__"=some (some (.builtin "object.__setattr__"))) (hp:W.plainOver K C=true) (ht:W.takerIn K C name=some none) (hh:W.hasDictIn K C=true)
  (hw:PySem.Within mA ns) (hsz:ns.length<=sizeLine)
  (h:∀ h',ObjM h' x dx C (λy=>if y=name then some v else mA y)->Heap.SameBut dx s.heap h'->Q () { s with heap:=h',toks:=s.toks+2 }) :
  wpAny (model prog w) A (setAttr (.ref x) name v) Q E s:=by
 obtain⟨od,J,hl⟩:=I.look;refine W.set_plain X J hs (W.osa_open (s:={ s with toks:=s.toks+1 }) (r:=none) X J hp ht λb=>?_);obtain⟨cd,hc,hd'⟩:=W.any_some hh;have hx:s.heap.get? x=some ⟨.ref C,some dx,.plain,#[]⟩:=I.obj;refine qX (q9 (qX (qX (wpAny_loadPart hx (qX (W.Looks.here (s:={ s with toks:=s.toks+1 }) (W.looks_clsIn X hc) ?_))))));rw[hd'];refine q9 (a:=some dx) (qX (q9 (qX ?_)));refine wpAny_nsSet1 (s:={ s with toks:=s.toks+1 }) I.ns λh' hn2 hs2=>?_
 obtain⟨oD,esD,epD,hoD,hdD,hcD⟩:=hn2.count (PySem.Within.cons name v hw);refine qX (wpAny_lookBehind hoD (by rw[hdD];exact pastItsLine_dict (le_trans hcD (by rw[xY];omega))) ?_);exact q9 (h _ ⟨(hs2.2 _ (Ne.symm I.ne)).trans I.obj,hn2,I.ne⟩ hs2)
theorem zMf (X:K.In s.heap)(hm:W.makesIn K C=true)
  (hi:W.findIn K (.ref C) "__init__"=some (some (.ref f))) (hf:W.typeIn K (.ref f)=some (.type "function"))
  (h:codeAny (model prog w) (A.under (.builtin "type.__call__" ⟨.ref C::vs,kw⟩)) (.call (.ref f) ⟨.ref (s.heap.objs.size+1)::vs,kw⟩) (W.InitBack (s.heap.objs.size+1) R)
   { s with heap:=(s.heap.push W.emptyDict).push (W.instObj C s.heap.objs.size) }) :
  codeAny (model prog w) A (.call (.ref C) ⟨vs,kw⟩) R s:=by
 obtain⟨hh,g,d,t,os⟩:=s;exact W.make_core (W.makes_of X hm) (W.looks_findIn X hi) (λself=>W.bind_fn X self hf) (.inl rfl) h
end
noncomputable def putF (f:Str)(v:V):List (Str×V)->List (Str×V)
 | []=>[(f,v)]
 | (g,x)::r=>if g=f then (g,v)::r else (g,x)::putF f v r
theorem zCF (f g:Str)(v:V):∀ fs:List (Str×V),(putF f v fs).lookup g=if g=f then some v else fs.lookup g
 | []=>by
  show List.lookup g [(f,v)]=_;by_cases h:g=f
  .have hb:(g==f)=true:=beq_iff_eq.mpr h;simp only[List.lookup,hb,if_pos h]
  .have hb:(g==f)=false:=beq_eq_false_iff_ne.mpr h;simp only[List.lookup,hb,if_neg h]
 | (k,x)::r=>by
  have ih:=zCF f g v r;rw[show putF f v ((k,x)::r)=(if k=f then (k,v)::r else (k,x)::putF f v r) from rfl];by_cases hk:k=f
  .rw [if_pos hk];by_cases h:g=k
   .have hb:(g==k)=true:=beq_iff_eq.mpr h;simp only[List.lookup,hb,if_pos (h.trans hk)]
   .have hb:(g==k)=false:=beq_eq_false_iff_ne.mpr h;simp only[List.lookup,hb,if_neg (λe:g=f=>h (e.trans hk.symm))]
  .rw [if_neg hk];by_cases h:g=k
   .have hb:(g==k)=true:=beq_iff_eq.mpr h;simp only[List.lookup,hb,if_neg (λe:g=f=>hk (h.symm.trans e))]
   .have hb:(g==k)=false:=beq_eq_false_iff_ne.mpr h;simp only[List.lookup,hb];exact ih
theorem zEL (f:Str)(v:V):∀ fs:List (Str×V),f∈(putF f v fs).map (·.1)/\∀ g,g∈fs.map (·.1)->g∈(putF f v fs).map (·.1)
 | []=>⟨by simp[putF],λg h=>by simp at h⟩
 | (k,x)::r=>by
  obtain⟨i1,i2⟩:=zEL f v r;rw[show putF f v ((k,x)::r)=(if k=f then (k,v)::r else (k,x)::putF f v r) from rfl];by_cases hk:k=f
  .rw [if_pos hk];subst hk;exact⟨by simp,λg h=>by simpa using h⟩
  .rw [if_neg hk];refine⟨?_,λg h=>?_⟩
   .rw [map_cons];exact qJ _ i1
   .rw [map_cons] at h ⊢;rcases mem_cons.mp h with e | e
    .exact mem_cons.mpr (.inl e)
    .exact qJ _ (i2 g e)
theorem zEJ (f:Str)(v:V):∀ fs:List (Str×V),(putF f v fs).length<=fs.length+1
 | []=>by simp[putF]
 | (k,x)::r=>by
  have ih:=zEJ f v r;rw[show putF f v ((k,x)::r)=(if k=f then (k,v)::r else (k,x)::putF f v r) from rfl];by_cases hk:k=f
  .rw [if_pos hk,xY,xY];omega
  .rw [if_neg hk,xY,xY];omega
theorem RelO.some_of (r:RelO (some v) o):∃ u,o=some u/\RelV v u:=by
 cases o with
 | none=>exact(show False from r).elim
 | some u=>exact⟨u,rfl,r⟩
theorem RelO.none_of (r:RelO none o):o=none:=by
 cases o with
 | none=>rfl
 | some u=>exact(show False from r).elim
theorem zKg (r:RelV v u):W.handedIn u=true:=by
 cases v with
 | non=>cases (show u=Value.none from r);rfl
 | bl b=>cases (show u=Value.bool b from r);rfl
 | int i=>obtain⟨t,e⟩:=(show ∃ t,u=Value.int i t from r);cases e;rfl
 | str x=>obtain⟨t,e⟩:=(show ∃ t,u=Value.str x t from r);cases e;rfl
 | byt b=>obtain⟨t,e⟩:=(show ∃ t,u=Value.bytes b t from r);cases e;rfl
 | flt b=>obtain⟨t,e⟩:=(show ∃ t,u=Value.float b t from r);cases e;rfl
 | ref a=>cases (show u=Value.ref a from r);rfl
 | ty n=>cases (show u=Value.type n from r);rfl
section
variable {P:Program}{w:World}{H H':Hp}{h h':Heap}{a C dx:Addr}{fs fs':List (Str×V)}
theorem zFd (hok:HOk P w H h)(e:H a=some (.ins C dx fs)):∃ mA,ObjM h a dx C mA/\(∀ f,RelO (fs.lookup f) (mA f))/\PySem.Within mA (fs.map (·.1))/\fs.length<=1000/\H dx=some (.own a):=by
 obtain⟨d,z,ne,ob,mA,n,r,q⟩:=(show zBm P w H h a (.ins C dx fs) from hok a _ e);exact⟨mA,⟨ob,n,ne⟩,r,q,z,d⟩
end
structure Cls (K:W.Frag)(C:Addr):Prop where
 pg:W.plainGet K C Str.empty=true
 hd:W.hasDictIn K C=true
 po:W.plainOver K C=true
 sa:W.findIn K (.ref C) "__setattr__"=some (some (.builtin "object.__setattr__"))
theorem Cls.get {K:W.Frag}(c:Cls K C)(f:Str):W.plainGet K C f=true:=c.pg
def zCf (K:W.Frag)(C:Addr)(f:Str):Prop:=W.findIn K (.ref C) f=some none
theorem zCf.taker {K:W.Frag}(n:zCf K C f):W.takerIn K C f=some none:=by
 unfold W.takerIn;rw[show W.findIn K (.ref C) f=some none from n]
 rfl
structure Meth (K:W.Frag)(C:Addr)(m:Str)(f:Addr):Prop where
 at_:W.findIn K (.ref C) m=some (some (.ref f))
 fn:W.isFn K (.ref f)=true
 kp:W.keepIn K (.ref f)=true
section
variable {X:Cx}{pins:List (Addr×Obj)}{B:St}{H:Hp}{s:Shared}{a C dx:Addr}{fs:List (Str×V)}{f:Str}{v:V}{A:Around}{E:Value->Shared->Prop}
theorem zIr (I:Inv X pins B H s)(e:H a=some (.ins C dx fs))(c:Cls X.K C)(n:zCf X.K C f)(l:fs.lookup f=some v)
  (h:∀ u s',Inv X pins B H s'->RelV v u->Q u s'):wpAny (model X.prog X.w) A (getAttr (.ref a) f b) Q E s:=by
 obtain⟨mA,O,r,_,_,_⟩:=zFd I.hok e;obtain⟨u,hu,ru⟩:=RelO.some_of (v:=v) (o:=mA f) (by rw[<- l];exact r f);exact zQH I.kIn O (c.get f) c.hd n hu (zKg ru) (h u _ (I.tok _) ru)
theorem zIq (I:Inv X pins B H s)(e:H a=some (.ins C dx fs))(c:Cls X.K C)(k:Meth X.K C m g)(l:fs.lookup m=none)
  (h:Q (.ref g,[.ref a]) s):wpAny (model X.prog X.w) A (getMethod (.ref a) m pl) Q E s:=by
 obtain⟨mA,O,r,_,_,_⟩:=zFd I.hok e;have hn:mA m=none:=RelO.none_of (by rw[<- l];exact r m);exact zM5 I.kIn O (c.get m) k.at_ k.fn hn h
theorem zIV (I:Inv X pins B H s)(e:H a=some (.ins C dx fs))(c:Cls X.K C)(n:zCf X.K C f)(hl:fs.length < 1000)(ry:RelV y u)
  (h:∀ s',Inv X pins B (upd H a (.ins C dx (putF f y fs))) s'->Q () s'):wpAny (model X.prog X.w) A (setAttr (.ref a) f u) Q E s:=by
 obtain⟨mA,O,r,wi,_,ho⟩:=zFd I.hok e;have hz:(fs.map (·.1)).length<=sizeLine:=by rw[qy,sizeLine_eq];omega
 refine zOx I.kIn O c.sa c.po n.taker c.hd wi hz λh' O' sb=>h _ ?_
 have hd:∃ o,h'.get? dx=some o:=let ⟨o,_,_,e',_⟩:=O'.ns;⟨o,e'⟩
 refine I.write (x:=a) (e:=dx) (by rw[e];exact True.intro) (.inr ho) (λb q hb z=>(sb.2 b hb).trans z) hd ?_;refine⟨by rw[zAP O.ne];exact ho,?_,O.ne,O'.obj,_,O'.ns,λg=>?_,λg hg=>?_⟩
 .have:=zEJ f y fs;omega
 .show RelO ((putF f y fs).lookup g) (if g=f then some u else mA g);rw[zCF];by_cases q:g=f
  .rw [if_pos q,if_pos q];exact ry
  .rw [if_neg q,if_neg q];exact r g
 .by_cases q:g=f
  .rw [q];exact(zEL f y fs).1
  .refine (zEL f y fs).2 g (wi g λz=>hg ?_);show (if g=f then some u else mA g)=none;rw[if_neg q];exact z
theorem Inv.made (I:Inv X pins B H s):Inv X pins B (upd (upd H s.heap.objs.size (.own (s.heap.objs.size+1))) (s.heap.objs.size+1) (.ins C s.heap.objs.size []))
  { s with heap:=(s.heap.push W.emptyDict).push (W.instObj C s.heap.objs.size) }:=by
 have e1:(s.heap.push W.emptyDict).get? s.heap.objs.size=some W.emptyDict:=get?_push_size s.heap rfl;have e2:((s.heap.push W.emptyDict).push (W.instObj C s.heap.objs.size)).get? (s.heap.objs.size+1)=some (W.instObj C s.heap.objs.size):=by
  have:=get?_push_size (s.heap.push W.emptyDict) (o:=W.instObj C s.heap.objs.size) rfl;rwa [Heap.size_push] at this
 have e3:(s.heap.push W.emptyDict).Ns s.heap.objs.size (λ_=>none):=⟨W.emptyDict,#[],_,e1,rfl,(λe he=>absurd he (by simp)),λ_=>rfl⟩;have I1:=I.laid (a:=s.heap.objs.size) (o:=.own (s.heap.objs.size+1)) (h':=s.heap.push W.emptyDict) (t':=s.toks) (λb u q=>get?_push_of_some _ q) (le_refl _) ⟨_,e1⟩;refine I1.laid (a:=s.heap.objs.size+1) (o:=.ins C s.heap.objs.size []) (t':=s.toks) (λb u q=>get?_push_of_some _ q) (Nat.le_of_eq (Heap.size_push _ _)) ?_;have ne:s.heap.objs.size≠s.heap.objs.size+1:=ne_of_lt (Nat.lt_succ_self _);refine⟨by rw[zAP ne,zAh],zero_le _,ne,e2,λ_=>none,(Heap.Ns1.of_empty e3).at λo q=>get?_push_of_some _ q,λ_=>True.intro,λy hy=>absurd rfl hy⟩
theorem zQ2 (hb:attributeBase e f env (eval e env)=eval e env)
  (h:wpAny (model prog w) A (eval e env) (λo O2=>wpAny (model prog w) A (getAttr o f true) Q E O2) E s):wpAny (model prog w) A (eval (.Attribute e f pos) env) Q E s :=
 Attribute_any_ h (by rw[arm_eval_Attribute,hb])
end
def tFld (K:W.Frag)(ta:TE)(f:Str):TE:=λB H Q=>ta B H λx H1=>∃ a C dx fs v,x=.ref a/\H1 a=some (.ins C dx fs)/\Cls K C/\zCf K C f/\fs.lookup f=some v/\Q v H1
def sFld (K:W.Frag)(ta tv:TE)(f:Str):TS:=λD B H=>tv B H λy H1=>ta B H1 λx H2=>∃ a C dx fs,x=.ref a/\H2 a=some (.ins C dx fs)/\Cls K C/\zCf K C f/\fs.length < 1000 /\
 D.nx B (upd H2 a (.ins C dx (putF f y fs)))
section
variable {X:Cx}{o e value:Expr}{f:Str}{pos pos' tpos:Pos}{ta tv:TE}
theorem zOB (he:PE X e ta)(hb:attributeBase e f X.env (eval e X.env)=eval e X.env):PE X (.Attribute e f pos) (tFld X.K ta f):=by
 intro pins s B H Q I h;refine zQ2 hb (thn (he pins s B H _ I h) λu s1 zz24=>?_);obtain⟨x,H1,I1,rx,a,C,dx,fs,v,ex,ea,c,n,l,q⟩:=zz24;subst ex;obtain rfl:u=Value.ref a:=rx;exact zIr I1 ea c n l λu' s2 I2 ru=>⟨v,H1,I2,ru,q⟩
theorem zRb (ha:PE X o ta)(hv:PE X value tv)(hs:swapsWith value (some (.Attribute o f pos')) pos.line X.env=pure false):PS X (.Assign [.Attribute o f pos'] value pos) (sFld X.K ta tv f):=by
 intro pins s B H D I h;refine plainObj_wpAny_Assign_Attribute (thn (hv pins s B H _ I h) λu s1 ⟨y,H1,I1,ry,q⟩=>thn (ha pins s1 B H1 _ I1 q) λov s2 zz25=>?_) hs;obtain⟨x,H2,I2,rx,a,C,dx,fs,ex,ea,c,n,l,q2⟩:=zz25;subst ex;obtain rfl:ov=Value.ref a:=rx;exact zIV I2 ea c n l ry λs3 I3=>⟨B,_,I3,q2⟩
end
section
variable {X:Cx}{pins:List (Addr×Obj)}{B:St}{H:Hp}{s:Shared}{A:Around}{E:Value->Shared->Prop}{Q:Value->Shared->Prop}{c:Value}{b:Bool}
inductive TyOf (K:W.Frag) (H:Hp):V->Value->Prop where
 | non:TyOf K H .non (.type "NoneType")
 | bl (x:Bool):TyOf K H (.bl x) (.type "bool")
 | int (i:Int):TyOf K H (.int i) (.type "int")
 | str (x:Str):TyOf K H (.str x) (.type "str")
 | flt (x:UInt64):TyOf K H (.flt x) (.type "float")
 | lst {a:Addr} {xs:List V} (e:H a=some (.lst xs)):TyOf K H (.ref a) (.type "list")
 | frz {a:Addr} {o:Obj} {xs:List V} (e:H a=some (.frz o (.lst xs))):TyOf K H (.ref a) (.type "list")
 | tup {a:Addr} {xs:List V} (e:H a=some (.tup xs)):TyOf K H (.ref a) (.type "tuple")
 | dK {a:Addr} {kvs:List (Key×V)} (e:H a=some (.dK kvs)):TyOf K H (.ref a) (.type "dict")
 | dT {a:Addr} {kvs:List (List Key×V)} (e:H a=some (.dT kvs)):TyOf K H (.ref a) (.type "dict")
 | ins {a C dx:Addr} {fs:List (Str×V)} (e:H a=some (.ins C dx fs)) (cl:Cls K C) (ha:W.findIn K (.ref C) "__class__"=some (some (.builtin "object.__class__")))
   (hn:W.specialIn K (.builtin "object.__class__") "__get__"=some (some (.builtin "getset_descriptor.__get__"))) (htk:W.takesIn K (.builtin "object.__class__")=some true)
   (hm:W.mroIn K C (.type "object")=some true):TyOf K H (.ref a) (.ref C)
theorem zKb (I:Inv X pins B H s)(rx:RelV x u)(ty:TyOf X.K H x t)(e:W.kitOne X.K t c=some b)(h:∀ tk,Q (.bool b) { s with toks:=tk }) :
  wpAny (model X.prog X.w) A (call (.builtin "isinstance") [u,c]) Q E s:=by
 cases ty with
 | non=>cases (show u=Value.none from rx);exact W.kia_one W.kitx_none I.kIn True.intro e (λz=>nomatch z) h
 | bl y=>cases (show u=Value.bool y from rx);exact W.kia_one W.kitx_bool I.kIn True.intro e (λz=>nomatch z) h
 | int i=>obtain⟨t,q⟩:=(show ∃ t,u=Value.int i t from rx);cases q;exact W.kia_one W.kitx_int I.kIn True.intro e (λz=>nomatch z) h
 | str y=>obtain⟨t,q⟩:=(show ∃ t,u=Value.str y t from rx);cases q;exact W.kia_one W.kitx_str I.kIn True.intro e (λz=>nomatch z) h
 | flt y=>obtain⟨t,q⟩:=(show ∃ t,u=Value.float y t from rx);cases q;exact W.kia_one W.kitx_float I.kIn True.intro e (λz=>nomatch z) h
 | @lst a xs ea =>
  cases (show u=Value.ref a from rx);obtain⟨_,_,n,_,h1⟩:=(show zBm X.prog X.w H s.heap a (.lst xs) from I.hok a _ ea);exact W.kia_one W.kitx_list I.kIn ⟨_,h1,rfl⟩ e (λz=>nomatch z) h
 | @frz a ob xs ea =>
  cases (show u=Value.ref a from rx);obtain⟨_,_,_,n,_,h1⟩:=(show zBm X.prog X.w H s.heap a (.frz ob (.lst xs)) from I.hok a _ ea);exact W.kia_one W.kitx_list I.kIn ⟨_,h1,rfl⟩ e (λz=>nomatch z) h
 | @tup a xs ea =>
  cases (show u=Value.ref a from rx);obtain⟨_,_,_,p⟩:=(show zBm X.prog X.w H s.heap a (.tup xs) from I.hok a _ ea);obtain⟨o,h1,h2,_⟩:=p;exact W.kia_one W.kitx_tuple I.kIn ⟨o,h1,h2⟩ e (λz=>nomatch z) h
 | @dK a kvs ea =>
  cases (show u=Value.ref a from rx);obtain⟨_,_,vs,_,p⟩:=(show zBm X.prog X.w H s.heap a (.dK kvs) from I.hok a _ ea);obtain⟨o,es,ep,h1,h2,_⟩:=p;exact W.kia_one W.kitx_dict I.kIn ⟨o,h1,h2.1⟩ e (λz=>nomatch z) h
 | @dT a kvs ea =>
  cases (show u=Value.ref a from rx);obtain⟨_,_,xs,_,o,es,ep,h1,h2,_⟩:=(show zBm X.prog X.w H s.heap a (.dT kvs) from I.hok a _ ea);exact W.kia_one W.kitx_dict I.kIn ⟨o,h1,h2.1⟩ e (λz=>nomatch z) h
 | @ins a C dx fs ea cl ha hn htk hm =>
  cases (show u=Value.ref a from rx);obtain⟨mA,O,_⟩:=zFd I.hok ea;obtain⟨od,J,_⟩:=O.look;exact W.kia_one (W.kitx_own (cl.get _) cl.hd ha hn htk hm) I.kIn J e (λz=>nomatch z) h
end
structure Room (k:Nat)(A:Around):Prop where
 hd:A.handled=none
 dp:A.depth+3*k+105 < recursionLimit
 un:A.units+16*k+200 < cLine
theorem Room.mono (r:Room k A)(h:j<=k):Room j A:=⟨r.hd,by have:=r.dp;omega,by have:=r.un;omega⟩
theorem Room.deeper (r:Room (k+1) A)(env:Env):Room k (A.deeper env) :=
 ⟨r.hd,by have:=r.dp;show A.depth+1+3*k+105 < _;omega,by have:=r.un;show A.units+3+16*k+200 < _;omega⟩
theorem zIi {A:Around}:(A.under (.builtin "type.__call__" ⟨.ref C::us,kw⟩)).depth=A.depth+1:=by
 first | rfl | simp[Around.under,Code.weight,Code.isCreation,Code.isGuard,Code.isCaller,Code.frames,Code.isFrame,guardIds]
theorem zIh {A:Around}:(A.under (.builtin "type.__call__" ⟨.ref C::us,kw⟩)).units=A.units+1:=by
 first | rfl | simp[Around.under,Code.cUnits,Code.frames,Code.isFrame]
theorem Room.make (r:Room (k+1) A)(C:Addr)(us:List Value)(kw:List (Str×Value)):Room k (A.under (.builtin "type.__call__" ⟨.ref C::us,kw⟩)) :=
 ⟨r.hd,by have:=r.dp;rw[zIi];omega,by have:=r.un;rw[zIh];omega⟩
theorem Room.depth (r:Room k A):A.depth < recursionLimit:=by have:=r.dp;omega
theorem Room.units (r:Room k A):A.units+64 < cLine:=by have:=r.un;omega
def tNil:TA:=λ_ H Q=>Q [] H
def zOt (ta:TE)(tr:TA):TA:=λB H Q=>ta B H λx H1=>tr B H1 λxs H2=>Q (x::xs) H2
section
variable {X:Cx}{e:Expr}{es:List Expr}{te:TE}{t:TA}{pos:Pos}
theorem zBC:PA X [] tNil:=λ_ _ _ _ H Q I h=>Calls.spliced_nil ⟨[],H,I,.nil,h⟩
theorem zAY (ha:PE X e te)(hr:PA X es t)(hs:starEach (e::es) X.env=(false,eval e X.env)::starEach es X.env:=by rfl):PA X (e::es) (zOt te t):=by
 intro pos pins s B H Q I h;rw[hs];show wpAny _ _ (spliced ((false,eval e X.env)::backTo pos (starEach es X.env))) _ _ s;refine Calls.spliced_cons (thn (ha pins s B H _ I h) λu s1 zz26=>?_);obtain⟨x,H1,I1,r1,q1⟩:=zz26;exact thn (hr pos pins s1 B H1 _ I1 q1) λus s2 zy122=>by obtain⟨xs,H2,I2,r2,q2⟩:=zy122;exact⟨x::xs,H2,I2,.cons r1 r2,q2⟩
def tTup (t:TA):TE:=λB H Q=>t B H λxs H1=>xs.length<=sizeLine/\∀ p,H1 p=none->Q (.ref p) (upd H1 p (.tup xs))
def tLst (t:TA):TE:=λB H Q=>t B H λxs H1=>xs.length<=sizeLine/\∀ p,H1 p=none->Q (.ref p) (upd H1 p (.lst xs))
theorem zRe {x1}(h:PA X es t):PE X (.Tuple es x1 pos) (tTup t):=by
 intro pins s B H Q I hq;refine wpAny_Tuple_spliced (thn (h pos pins s B H _ I hq) λus s1 ⟨xs,H1,I1,r,z,q⟩=>⟨by rw[<- r.length];exact z,?_⟩);have hf:H1 s1.heap.objs.size=none:=I1.hok.fresh (le_refl _);refine⟨.ref s1.heap.objs.size,upd H1 s1.heap.objs.size (.tup xs),I1.laid (t':=s1.toks) (λb u e=>get?_push_of_some _ e) (le_refl _) ?_,rfl,q _ hf⟩;exact⟨z,us,r,⟨_,get?_push_size _ rfl,rfl,_,rfl⟩⟩
theorem zOA (h:PA X es t):PE X (.List es pos) (tLst t):=by
 intro pins s B H Q I hq;refine wpAny_List_spliced (thn (h pos pins s B H _ I hq) λus s1 ⟨xs,H1,I1,r,z,q⟩=>⟨by rw[<- r.length];exact z,?_⟩);have hf:H1 s1.heap.objs.size=none:=I1.hok.fresh (le_refl _);refine⟨.ref s1.heap.objs.size,upd H1 s1.heap.objs.size (.lst xs),I1.laid (t':=s1.toks) (λb u e=>get?_push_of_some _ e) (le_refl _) ?_,rfl,q _ hf⟩;exact⟨z,us,0,r,get?_push_size _ rfl⟩
end
abbrev Sp:=List V->Hp->VK->XK->Prop
abbrev CXT:=List Env->Hp->Shared->XK->Value->Shared->Prop
structure Env0 (P:Program)(w:World)(K:W.Frag)(mg:Str->Option Value)(base:Heap)(A:Around)(outer:List Env)(s:Shared)(H:Hp):Prop where
 frames:A.frames=some outer
 mod:Mod K mg base
 bs:∀ b o,base.get? b=some o->s.heap.get? b=some o/\H b=none
 bsz:base.objs.size<=s.heap.objs.size
 funs:s.heap.FunFrames base outer
 frf:∀ b∈frs outer,H b=none
 hok:HOk P w H s.heap
 bare:AllBare s.gens
 tree:(model P w).prog.given.tree=none
 tabs:zIL K H
def CE (outer:List Env)(P:Program)(w:World)(H:Hp)(s:Shared)(Q:VK)(u:Value)(s':Shared):Prop :=
 ∃ v H',s'.os=s.os/\AllBare s'.gens/\Un (frs outer) [] H H' s.heap s'.heap/\HOk P w H' s'.heap/\RelV v u/\Q v H'
def CR (CX:CXT)(outer:List Env)(P:Program)(w:World)(H:Hp)(s:Shared)(Q:VK)(E:XK)(r:Result)(s':Shared):Prop :=
 match r with
 | .ok (.ret u)=>CE outer P w H s Q u s'
 | .ok _=>False
 | .error e=>CX outer H s E e s'
structure FnOk (P:Program)(w:World)(K:W.Frag)(mg:Str->Option Value)(base:Heap)(CX:CXT)(k:Nat)(f:Addr)(fd:FuncData)(ps:List Str)(sp:Sp):Prop where
 len:∀ vs H Q E,sp vs H Q E->vs.length=ps.length
 run:∀ (A:Around) (outer:List Env) (s:Shared) (H:Hp) (args:Args) (us:List Value) (vs:List V) (Q:VK) (E:XK),Room k A->Env0 P w K mg base A outer s H->BindsTo s fd args (ps.zip us)->Vals vs us->sp vs H Q E ->
  codeAny (model P w) A (.call (.ref f) args) (CR CX outer P w H s Q E) s
theorem FnOk.mono {K:W.Frag}(F:FnOk P w K mg base CX j f fd ps sp)(h:j<=k) :
  FnOk P w K mg base CX k f fd ps sp:=⟨F.len,λA outer s H args us vs Q E hr=>F.run A outer s H args us vs Q E (hr.mono h)⟩
theorem Env0.make {K:W.Frag}(e:Env0 P w K mg base A outer s H)(C:Addr)(us:List Value)(kw:List (Str×Value)) :
  Env0 P w K mg base (A.under (.builtin "type.__call__" ⟨.ref C::us,kw⟩)) outer s H:=⟨by first | exact e.frames | (simpa [Around.under,Code.envs,Code.isFrame,pushEnvs] using e.frames),e.mod,e.bs,e.bsz,e.funs,e.frf,e.hok,e.bare,e.tree,e.tabs⟩
section
variable {X:Cx}{pins:List (Addr×Obj)}{B:St}{H:Hp}{s s':Shared}
theorem Inv.env0 (I:Inv X pins B H s):Env0 X.prog X.w X.K X.mg X.base X.A X.stack s H :=
 ⟨I.ok.frames,I.ok.mod,I.bs,le_trans I.ok.bsz I.sz,I.stack,I.stkFree,I.hok,I.bare,I.ok.pyl.2.1,I.tabs⟩
theorem Inv.after (I:Inv X pins B H s)(h:CE X.stack X.prog X.w H s Q u s'):EP X pins B Q u s':=by
 obtain⟨v,H',os,bare,un,hok,r,q⟩:=h;obtain⟨hh,g,d,t,os'⟩:=s';obtain rfl:os'=s.os:=os;exact⟨v,H',I.call (h':=hh) (g':=g) (d':=d) (t':=t) (ch:=[]) un hok bare (λb z=>absurd z (by simp)),r,q⟩
end
noncomputable def zMF (sp:Sp)(dvs:List V)(E:XK)(t:TA):TE:=λB H Q=>t B H λvs H1=>sp (vs++dvs) H1 Q E
def zTv (C:Addr)(m:Str)(sp:Sp)(dvs:List V)(E:XK)(ta:TE)(t:TA):TE:=λB H Q=>ta B H λx H1=>∃ a dx fs,x=.ref a/\H1 a=some (.ins C dx fs)/\fs.lookup m=none /\
 t B H1 λvs H2=>sp (x::(vs++dvs)) H2 Q E
def zBU (K:W.Frag)(fd:FuncData)(ps:List Str)(ds:List Value):Prop :=
 ∀ (s:Shared) (us:List Value),K.In s.heap->(us++ds).length=ps.length->BindsTo s fd ⟨us,[]⟩ (ps.zip (us++ds))
theorem zBU.all {K:W.Frag}(h:∀ us:List Value,us.length=ps.length->bindArgs fd ⟨us,[]⟩=pure (ps.zip us)):zBU K fd ps []:=λs us _ hl=>by
 rw[append_nil] at hl ⊢;exact .of_eq (h us hl)
def zGj (CX:CXT)(X:Cx)(E:XK):Prop:=∀ (pins:List (Addr×Obj)) (B:St) (H:Hp) (s:Shared) (e:Value) (s':Shared),Inv X pins B H s->CX X.stack H s E e s'->X.xe e s'
section
variable {X:Cx}{CX:CXT}{k:Nat}{f C:Addr}{fd:FuncData}{ps:List Str}{sp:Sp}{dvs:List V}{ds:List Value}{E:XK}{x m:Str}{p pos apos:Pos}{e o:Expr}{es:List Expr}{ta:TE}{t:TA}
theorem zHg {pins:List (Addr×Obj)}{B:St}{H:Hp}{s:Shared}{Q:VK}{us:List Value}{vs:List V}(F:FnOk X.prog X.w X.K X.mg X.base CX k f fd ps sp)(hr:Room k X.A)(hb:zBU X.K fd ps ds)(hd:Vals dvs ds)(hx:zGj CX X E)
  (I:Inv X pins B H s) (r:Vals vs us) (h:sp (vs++dvs) H Q E):wpAny (model X.prog X.w) X.A (call (.ref f) us) (EP X pins B Q) X.xe s:=by
 have r2:Vals (vs++dvs) (us++ds):=r.append hd;have hl:(us++ds).length=ps.length:=by rw[<- r2.length];exact F.len _ _ _ _ h
 refine wpAny_call (codeAny_mono (F.run X.A X.stack s H ⟨us,[]⟩ (us++ds) (vs++dvs) Q E hr I.env0 (hb s us I.kIn hl) r2 h) λr s' hq=>?_);cases r with
 | error e=>exact hx pins B H s e s' I hq
 | ok fl =>
  cases fl with
  | ret u=>exact I.after hq
  | next=>exact False.elim hq
  | brk=>exact False.elim hq
  | cont=>exact False.elim hq
theorem zJr (F:FnOk X.prog X.w X.K X.mg X.base CX k f fd ps sp)(hr:Room k X.A)(hg:Gl X x)(hm:X.mg x=some (.ref f))(hk:W.keepIn X.K (.ref f)=true)(hb:zBU X.K fd ps ds)(hd:Vals dvs ds)(hx:zGj CX X E)
  (ha:PA X (e::es) t) (hdb:(x==("__debug__":Str))=false:=by decide) (he:starEach (e::es) X.env=(false,eval e X.env)::starEach es X.env:=by rfl) (hpl:(backTo pos (starEach es X.env)).any (·.1)=false:=by rfl) :
  PE X (.Call (.Name x p) (e::es) [] pos) (zMF sp dvs E t):=by
 intro pins s B H Q I h;refine wpAny_Call_Name_kw (zDY I hg hm ?_ hdb);refine W.callWith_K (h₀:=X.base) I.ok.mod.kin hk (thn (ha pos pins s B H _ I h) λus s1 ⟨vs,H1,I1,r,q⟩=>⟨I1.kIn,?_⟩) he hpl;exact zHg F hr hb hd hx I1 r q
theorem zMV (F:FnOk X.prog X.w X.K X.mg X.base CX k f fd ps sp)(hr:Room k X.A)(hg:Gl X x)(hm:X.mg x=some (.ref f))(hk:W.keepIn X.K (.ref f)=true)(hb:zBU X.K fd ps ds)(hd:Vals dvs ds)(hx:zGj CX X E)
  (hdb:(x==("__debug__":Str))=false:=by decide):PE X (.Call (.Name x p) [] [] pos) (zMF sp dvs E tNil):=by
 intro pins s B H Q I h;refine wpAny_Call_Name_kw (zDY I hg hm ?_ hdb);exact W.callWith_K0 I.kIn hk (zHg (us:=[]) F hr hb hd hx I .nil h)
theorem zPF {pl:Sem Bool}(he:PE X o ta)(c:Cls X.K C)(hm:Meth X.K C m f)(F:FnOk X.prog X.w X.K X.mg X.base CX k f fd ps sp)(hr:Room k X.A)(hb:zBU X.K fd ps ds)(hd:Vals dvs ds)(hx:zGj CX X E)(ha:PA X (e::es) t)
  (hst:starEach (e::es) X.env=(false,eval e X.env)::starEach es X.env:=by rfl) (hpl:(backTo pos (starEach es X.env)).any (·.1)=false:=by rfl)
  (ht:eval (.Call (.Attribute o m apos) (e::es) [] pos) X.env=(do
   let ov<-eval o X.env
   standAt apos.atName
   let (f,first)<-holding [ov] (getMethod ov m pl)
   callWith pos f first (backTo pos (starEach (e::es) X.env)) (backToKw pos (keywordEach [] X.env))):=by rfl) :
  PE X (.Call (.Attribute o m apos) (e::es) [] pos) (zTv C m sp dvs E ta t):=by
 intro pins s B H Q I h;refine W.methodCall_KW (pl:=pl) (thn (he pins s B H _ I h) λu s1 zz27=>?_) ht;obtain⟨x,H1,I1,rx,a,dx,fs,ex,ea,l,q⟩:=zz27;subst ex;obtain rfl:u=Value.ref a:=rx;refine zIq I1 ea c hm l ?_;refine W.callWith_K (first:=[.ref a]) (h₀:=X.base) I.ok.mod.kin hm.kp (thn (ha pos pins s1 B H1 _ I1 q) λus s2 ⟨vs,H2,I2,r,q2⟩=>⟨I2.kIn,?_⟩) hst hpl;exact zHg (us:=.ref a::us) (vs:=.ref a::vs) F hr hb hd hx I2 (.cons rfl r) q2
structure Mk (K:W.Frag)(C f:Addr):Prop where
 makes:W.makesIn K C=true
 init:W.findIn K (.ref C) "__init__"=some (some (.ref f))
 fn:W.isFn K (.ref f)=true
 kp:W.keepIn K (.ref C)=true
end
def PK (X:Cx)(kws:List Keyword)(t:TA):Prop :=
 ∀ (pos:Pos) (pins:List (Addr×Obj)) (s:Shared) (B:St) (H:Hp) (Q:List V->Hp->Prop),Inv X pins B H s->t B H Q->wpAny (model X.prog X.w) X.A (evalAll ((backToKw pos (keywordEach kws X.env)).map (·.2))) (AP X pins B Q) X.xe s
section
variable {X:Cx}{CX:CXT}{k:Nat}{f C:Addr}{fd:FuncData}{ps ks:List Str}{sp:Sp}{E:XK}{x m:Str}{p pos apos kpos:Pos}{e o:Expr}{es:List Expr}{kws:List Keyword}{te ta:TE}{t tk:TA}{nm:Option Str}
theorem zRd:PK X [] tNil:=λ_ _ _ _ H Q I h=>wpAny_evalAll_nil ⟨[],H,I,.nil,h⟩
theorem zPE (ha:PE X e te)(hr:PK X kws t):PK X (⟨nm,e,kpos⟩::kws) (zOt te t):=by
 intro pos pins s B H Q I h;show wpAny _ _ (evalAll ((do let v<-eval e X.env;standAt pos;pure v)::(backToKw pos (keywordEach kws X.env)).map (·.2))) _ _ s;refine wpAny_evalAll_cons (qX (thn (ha pins s B H _ I h) λu s1 ⟨x,H1,I1,r1,q1⟩=>qX (wpAny_standAt (q9 ?_))));exact thn (hr pos pins s1 B H1 _ I1 q1) λus s2 zy123=>by obtain⟨xs,H2,I2,r2,q2⟩:=zy123;exact⟨x::xs,H2,I2,.cons r1 r2,q2⟩
variable {g:List Value->List Value->List Value}{gV:List V->List V->List V}
end
structure zAi (N P:List Str)(sc:Scope):Prop where
 kind:sc.kind=.function
 co:sc.isCoroutine=false
 gen:sc.isGenerator=false
 nd:N.Nodup
 pre:N.take P.length=P
 par:∀ x∈P,sc.names.lookup x=some .local\/sc.names.lookup x=some .cell
 nofree:∀ y∈sc.names,y.2≠.free
theorem zGf {kindOf:Str->Option NameKind}:∀ {binds:List (Str×Value)} {m:Str->Option Value},(∀ v,(x,v)∉binds)->bindL kindOf binds m x=m x
 | [],_,_=>rfl
 | (n,v)::r,m,h=>by
  unfold bindL;rw[zGf λw hw=>h w (qJ _ hw)];split
  .have:x≠n:=by rintro rfl;exact h v q8
   simp[this]
  .rfl
theorem zGh {kindOf:Str->Option NameKind}:∀ {binds:List (Str×Value)} {m:Str->Option Value},(∀ v,(x,v)∉binds)->bindC kindOf binds m x=m x
 | [],_,_=>rfl
 | (n,v)::r,m,h=>by
  unfold bindC;rw[zGh λw hw=>h w (qJ _ hw)];split
  .rfl
  .have:x≠n:=by rintro rfl;exact h v q8
   simp[this]
theorem zGg {kindOf:Str->Option NameKind}:∀ {P:List Str} {vs:List Value} {i:Nat} {m:Str->Option Value},P.Nodup->P[i]?=some x->vs[i]?=some v->kindOf x=some .local ->
  bindL kindOf (P.zip vs) m x=some v
 | [],_,_,_,_,h,_,_=>by simp at h
 | _::_,[],_,_,_,_,h,_=>by simp at h
 | p::P,w::vs,0,m,nd,h1,h2,hk=>by
  simp at h1 h2;subst h1;subst h2;show bindL kindOf ((p,w)::P.zip vs) m p=_;unfold bindL;rw[zGf λv hv=>(nodup_cons.mp nd).1 (of_mem_zip hv).1,if_pos hk];simp
 | p::P,w::vs,i+1,m,nd,h1,h2,hk=>by
  show bindL kindOf ((p,w)::P.zip vs) m x=_;unfold bindL;exact zGg (i:=i) (nodup_cons.mp nd).2 (by simpa using h1) (by simpa using h2) hk
theorem zGi {kindOf:Str->Option NameKind}:∀ {P:List Str} {vs:List Value} {i:Nat} {m:Str->Option Value},P.Nodup->P[i]?=some x->vs[i]?=some v->kindOf x≠some .local ->
  bindC kindOf (P.zip vs) m x=some v
 | [],_,_,_,_,h,_,_=>by simp at h
 | _::_,[],_,_,_,_,h,_=>by simp at h
 | p::P,w::vs,0,m,nd,h1,h2,hk=>by
  simp at h1 h2;subst h1;subst h2;show bindC kindOf ((p,w)::P.zip vs) m p=_;unfold bindC;rw[zGh λv hv=>(nodup_cons.mp nd).1 (of_mem_zip hv).1,if_neg hk];simp
 | p::P,w::vs,i+1,m,nd,h1,h2,hk=>by
  show bindC kindOf ((p,w)::P.zip vs) m x=_;unfold bindC;exact zGi (i:=i) (nodup_cons.mp nd).2 (by simpa using h1) (by simpa using h2) hk
def zB0 (N:List Str)(vs:List V):St:=vs.map some++List.replicate (N.length - vs.length) none
noncomputable def cxOf (CX:CXT)(P:Program)(w:World)(K:W.Frag)(mg:Str->Option Value)(base:Heap)(N:List Str)(qual:Str)(scope:Scope)(f:Addr)(cd:Value)(A:Around)(outer:List Env)(s:Shared)(H:Hp)(E:XK):Cx where
 prog:=P
 w:=w
 K:=K
 mg:=mg
 base:=base
 A:=A.deeper (envOfC qual scope s.heap.objs.size f cd)
 N:=N
 s0:=s
 Y3:=H
 env:=envOfC qual scope s.heap.objs.size f cd
 outer:=outer
 stack:=envOfC qual scope s.heap.objs.size f cd::outer
 ex:=[]
 calm:=true
 fn:=λ_=>true
 pn:=[]
 xe:=λe s'=>wpAny (model P w) (A.deeper (envOfC qual scope s.heap.objs.size f cd)) (leaving (envOfC qual scope s.heap.objs.size f cd) e) (λ_ s''=>CX outer H s E e s'') (λe' s''=>CX outer H s E e' s'') s'
theorem zIH {sc:Scope}(h:sc.names.lookup x=some .cell):∃ c,(cellsFrom n sc.names []).lookup x=some c:=by
 have q:=W.cellsFrom_some sc.names n [] (.inl h);exact Option.isSome_iff_exists.mp q
theorem zGO {K:W.Frag}
  (S:zAi N ps scope) (hd:A.handled=none) (hdp:A.depth+1+Builtin.pylongFrames < recursionLimit) (e0:Env0 P w K mg base A outer s H) (hl:vs.length=ps.length) (r:Vals vs us)
  (x:InCallC s s.heap.objs.size (bindL (envOfC qual scope s.heap.objs.size f cd).kindOf (ps.zip us) λ_=>none) (cellsFrom (s.heap.objs.size+1) scope.names []) (bindC (envOfC qual scope s.heap.objs.size f cd).kindOf (ps.zip us) λ_=>none) s1) :
  Inv (cxOf CX P w K mg base N qual scope f cd A outer s H E) [] (zB0 N vs) H s1:=by
 have hpl:ps.length<=N.length:=by have:=congrArg List.length S.pre;rw[length_take] at this;omega
 obtain⟨h1,tk,rfl,hk⟩:=x.done;have noA:∀ b:Addr,b∉(cxOf CX P w K mg base N qual scope f cd A outer s H E).ex:=λb z=>absurd (show b∈([]:List Addr) from z) (by simp)
 refine⟨⟨e0.mod,S.kind,rfl,rfl,le_refl _,λy z c h1 h2=>?_,λy hy=>?_,λy c _ h=>?_,λ_=>hd,Around.frames_deeper e0.frames,.inr ⟨rfl,rfl⟩,λb z=>absurd z (noA b),e0.bs,e0.bsz,λb _ _=>noA b,λb z=>absurd z (noA b),e0.funs,e0.frf,⟨hdp,e0.tree,_,_,rfl,S.gen,S.co,rfl,rfl⟩,e0.tabs⟩,
  rfl,e0.bare,Un.kept hk,⟨_,x.toInCall.ns,λi y v h1 h2 h3=>?_⟩,λy c h=>⟨_,x.cell y c h⟩,e0.hok.fresh (le_refl _),λy c h=>?_,λp hp=>absurd (show p∈([]:List (Addr×Obj)) from hp) (by simp),e0.hok.kept hk,?_⟩
 .exact name_of_addr x.apart (PySem.mem_of_lookup h1) (PySem.mem_of_lookup h2)
 .have hy:scope.names.lookup y=some .cell\/scope.names.lookup y=some .free:=hy;rcases hy with hy | hy
  .exact zIH hy
  .exact absurd rfl (S.nofree _ (PySem.mem_of_lookup hy))
 .exact Nat.le_of_lt (x.above y c (PySem.mem_of_lookup h))
 .have hi:i < vs.length:=by
   unfold zB0 at h2;by_cases hi:i < vs.length
   .exact hi
   .rw [getElem?_append_right (by simpa using hi)] at h2;rw[getElem?_replicate] at h2;split at h2<;>cases h2
  have ha:vs[i]?=some v:=by
   unfold zB0 at h2;rw[getElem?_append_left (by simpa using hi),List.getElem?_map] at h2;cases e:vs[i]? with
   | none=>rw[e] at h2;cases h2
   | some a=>rw[e] at h2;cases h2;rfl
  obtain⟨u,hu,rv⟩:=r.get ha;have hp:ps[i]?=some y:=by
   rw[<- S.pre,List.getElem?_take_of_lt (by omega)];exact h1
  have ndP:ps.Nodup:=by rw[<- S.pre];exact S.nd.sublist (List.take_sublist _ _)
  refine⟨u,rv,?_⟩;rcases S.par y (mem_of_getElem? hp) with k | k
  .exact .inl ⟨k,zGg ndP hp hu k⟩
  .obtain ⟨c,e⟩:=zIH (n:=s.heap.objs.size+1) k;refine .inr ⟨.inl k,c,e,?_⟩;have q:=x.cell y c e;rw[zGi ndP hp hu (by show scope.names.lookup y≠_;rw[k];decide)] at q;exact q
 .exact e0.hok.fresh (Nat.le_of_lt (x.above y c (PySem.mem_of_lookup h)))
 .unfold zB0;show _=N.length;rw[qQ,qy,length_replicate];omega
theorem zTD {K:W.Frag}{kV:Value}
     (lk:K.lookup f=some ⟨oc,od,.func (W.fnOf name qual params body scope dV kV doc pm an cdv ct),osl⟩) (hcd:W.codeIn K cdv qual=true) (S:zAi N ps scope)
  (len:∀ vs H Q E,sp vs H Q E->vs.length=ps.length)
  (hbody:∀ (A:Around) (outer:List Env) (s:Shared) (H:Hp) (vs:List V) (Q:VK) (E:XK),Room k (A.deeper (envOfC qual scope s.heap.objs.size f cdv))->sp vs H Q E ->
   ∃ t,PSs (cxOf CX P w K mg base N qual scope f cdv A outer s H E) body t/\t { nx:=λ_ H'=>Q .non H',rt:=Q } (zB0 N vs) H) :
  FnOk P w K mg base CX (k+1) f (W.fnOf name qual params body scope dV kV doc pm an cdv ct) ps sp:=by
 refine⟨len,λA outer s H args us vs Q E hr e0 hb r hsp=>?_⟩;have hl:=len _ _ _ _ hsp;have KX:K.In s.heap:=e0.mod.kin.keeps λb o e=>(e0.bs b o e).1
 have lim:s.heap.NoLimit:=e0.mod.nolimit.keeps λb o e=>(e0.bs b o e).1
 have hkind:∀ y∈ps.zip us,scope.names.lookup y.1=some .local\/(scope.names.lookup y.1=some .cell/\((cellsFrom (s.heap.objs.size+1) scope.names []).lookup y.1).isSome=true):=λzz28 hy=>by
  obtain⟨n,v⟩:=zz28;rcases S.par n (of_mem_zip hy).1 with q | q
  .exact .inl q
  .exact .inr ⟨q,W.cellsFrom_some _ _ _ (.inl q)⟩
 refine codeAny_call_function hr.depth (KX _ _ lk) rfl S.co S.gen rfl (W.codeRec_of KX hcd) (hb _ _ _ _ ?_);refine wpAny_newFunctionEnv_cells S.kind hkind λenv he s1 x=>?_
 subst he;refine⟨lim.keeps x.toInCall.keep,codeAny_func ?_⟩;obtain⟨t,ht,hq⟩:=hbody A outer s H vs Q E (hr.deeper _) hsp;have I:Inv (cxOf CX P w K mg base N qual scope f cdv A outer s H E) [] (zB0 N vs) H s1:=zGO S hr.hd (by have:=hr.dp;show A.depth+1+100 < _;omega) e0 hl r x;refine wpAny_mono (ht [] s1 (zB0 N vs) H _ I hq) (λfl s' hs=>?_) λe s' hs=>hs
 have fin:∀ {B':St} {H':Hp} {v:V} {u:Value},Inv (cxOf CX P w K mg base N qual scope f cdv A outer s H E) [] B' H' s'->RelV v u->Q v H'->CE outer P w H s Q u s' :=
  λ{B' H' v u} J rv q=>⟨v,H',J.os,J.bare,J.base,J.hok,rv,q⟩
 cases fl with
 | ret u =>
  obtain⟨v,B',H',J,rv,q⟩:=hs;exact fin J rv q
 | next =>
  obtain⟨B',H',J,q⟩:=hs;exact fin (v:=V.non) (u:=Value.none) J rfl q
 | brk =>
  obtain⟨_,_,_,q⟩:=hs;exact False.elim q
 | cont =>
  obtain⟨_,_,_,q⟩:=hs;exact False.elim q
section
variable {X:Cx}{x:Str}{p pos:Pos}{e:Expr}{es:List Expr}{t:TA}{id T:String}{r:List V->Hp->VK->Prop}
def tCB (r:List V->Hp->VK->Prop)(t:TA):TE:=λB H Q=>t B H λvs H1=>r vs H1 Q
theorem zDx (hc:zDv X (.builtin id) r)(hg:Gl X x)(hm:X.mg x=none)(hv:bootBuiltins x=some (.builtin id))(ha:PA X (e::es) t)(hn:x ≠ "__name__":=by decide)(hdb:(x==("__debug__":Str))=false:=by decide)
  (he:starEach (e::es) X.env=(false,eval e X.env)::starEach es X.env:=by rfl) (hpl:(backTo pos (starEach es X.env)).any (·.1)=false:=by rfl):PE X (.Call (.Name x p) (e::es) [] pos) (tCB r t):=by
 intro pins s B H Q I h;refine wpAny_Call_Name_kw (zCv I hg hm hv ?_ hn hdb);exact PyProof.Rows.callWith_builtin1 (thn (ha pos pins s B H _ I h) λus s1 zy124=>by obtain⟨vs,H1,I1,r1,q1⟩:=zy124;exact hc pins s1 B H1 vs us Q I1 r1 q1) he hpl
theorem zJq (hc:zDv X (.type T) r)(hg:Gl X x)(hm:X.mg x=none)(hv:bootBuiltins x=some (.type T))(ha:PA X (e::es) t)(hn:x ≠ "__name__":=by decide)(hdb:(x==("__debug__":Str))=false:=by decide)
  (he:starEach (e::es) X.env=(false,eval e X.env)::starEach es X.env:=by rfl) (hpl:(backTo pos (starEach es X.env)).any (·.1)=false:=by rfl):PE X (.Call (.Name x p) (e::es) [] pos) (tCB r t):=by
 intro pins s B H Q I h;refine wpAny_Call_Name_kw (zCv I hg hm hv ?_ hn hdb);exact PyProof.Rows.callWith_type1 (thn (ha pos pins s B H _ I h) λus s1 zy125=>by obtain⟨vs,H1,I1,r1,q1⟩:=zy125;exact hc pins s1 B H1 vs us Q I1 r1 q1) he hpl
end
end L2
namespace HT
open PySem PyProof.Rows
section
open PySem.SeqAt
open PySem.AutoSeq1 (wpAny_loadPart')
open PySem.MeetsSeq PySem.MeetsSeq2 PySem.MeetsSeq3
end
section
variable {prog:Program}{w:World}{A:Around}{E:Value->Shared->Prop}{s:Shared}
theorem zQy (ht:IsTup s.heap t vs.toArray)(hb:IsTup s.heap b ws.toArray)(hv:vs≠[])
  (h1:ws=[]->Q (.ref t) s) (h2:ws≠[]->Q (.ref s.heap.objs.size) { s with heap:=s.heap.push { cls:=.type "tuple",data:=.seq (vs++ws).toArray } })
  (hsz:vs.length+ws.length<=sizeLine):wpAny (model prog w) A (binaryOp .Add (.ref t) (.ref b)) Q E s:=by
 obtain⟨⟨cls,dd,data,sl⟩,ho,hc,n,hd⟩:=id ht;obtain⟨⟨cls2,dd2,data2,sl2⟩,ho2,hc2,n2,hd2⟩:=id hb;simp only at hc hd hc2 hd2;subst hc hd hc2 hd2;have e:vs.toArray++ws.toArray=(vs++ws).toArray:=by simp
 by_cases hw:ws=[]
 .exact concat_meets ⟨_,ho,rfl⟩ ⟨_,ho2,rfl⟩ noFill_tuple_add seq_tuple_add PySem.F.slot_tuple_add PySem.F.entry_tuple_add (PySem.F.args_tuple_add_2 _ _)
   (tuple_addW1 t b vs.toArray ws.toArray n n2 dd dd2 sl sl2 (by simpa using hv) (by simp[hw])) ⟨ho,ho2,h1 hw⟩
 .refine concat_meets ⟨_,ho,rfl⟩ ⟨_,ho2,rfl⟩ noFill_tuple_add seq_tuple_add PySem.F.slot_tuple_add PySem.F.entry_tuple_add (PySem.F.args_tuple_add_2 _ _)
   (tuple_addW2 t b vs.toArray ws.toArray n n2 dd dd2 sl sl2 (by simpa using hv) (by simpa using hw) (by rw[xy,xy];exact hsz)) ⟨ho,ho2,?_⟩
  rw[e];exact h2 hw
noncomputable def sIx (n d:Nat):Option Int->Nat
 | none=>d
 | some v=>if v < 0 then (v+(n:Int)).toNat else min v.toNat n
theorem zHf (n d:Nat):sIx n d none=d:=rfl
theorem zJY (n d k:Nat):sIx n d (some (k:Int))=min k n:=by
 show (if (k:Int) < 0 then ((k:Int)+(n:Int)).toNat else min (k:Int).toNat n)=min k n;rw[if_neg (by omega),toNat_natCast]
theorem zRR (n d:Nat)(hd:d<=n)(o:Option Int):sIx n d o<=n:=by
 cases o with
 | none=>exact hd
 | some v =>
  show (if v < 0 then (v+(n:Int)).toNat else min v.toNat n)<=n;by_cases hv:v < 0
  .rw [if_pos hv];omega
  .rw [if_neg hv];exact Nat.min_le_right _ _
theorem zLe (v:Int)(n d:Nat):(if v < 0 then max (v+(n:Int)) 0 else min v (n:Int))=((sIx n d (some v):Nat):Int):=by
 show (if v < 0 then max (v+(n:Int)) 0 else min v (n:Int))=(((if v < 0 then (v+(n:Int)).toNat else min v.toNat n):Nat):Int);by_cases hv:v < 0
 .simp only [if_pos hv];omega
 .simp only [if_neg hv];omega
theorem zI4 (lo hi:Option Int)(n:Nat):Builtin.Slice.sliceAdjust lo hi 1 (n:Int)=(((sIx n 0 lo:Nat):Int),((sIx n n hi:Nat):Int)):=by
 have h1:¬ ((1:Int) < 0):=by omega
 unfold Builtin.Slice.sliceAdjust;simp only[h1,if_false];refine Prod.ext ?_ ?_
 .cases lo with
  | none=>rfl
  | some v=>exact zLe v n 0
 .cases hi with
  | none=>rfl
  | some v=>exact zLe v n n
theorem zIY (i j:Nat):Builtin.Slice.slicePlaces (i:Int) (j:Int) 1=j - i:=by
 unfold Builtin.Slice.slicePlaces;have h1:(1:Int)>0:=by omega
 simp only[h1,if_true,Int.ediv_one];split<;>omega
theorem zEk (p:IsPart v o)(h:Q o s):wpAny (model prog w) A (Builtin.Slice.slicePartIndex v) Q E s:=by
 cases p with
 | none=>exact slicePart_none h
 | int i t=>exact slicePart_int h
theorem zDq {lo hi:Option Int}{n:Nat}{Q:Int×Int×Nat->Shared->Prop}(hs:s.heap.IsSliceOf sl vl vu .none)(pl:IsPart vl lo)(pu:IsPart vu hi)
  (h:Q (((sIx n 0 lo:Nat):Int),1,sIx n n hi - sIx n 0 lo) s):wpAny (model prog w) A (Builtin.Slice.sliceApplied (.ref sl) (pure (n:Int))) Q E s:=by
 obtain⟨os,hos,hcs,hds⟩:=id hs;unfold Builtin.Slice.sliceApplied Builtin.Slice.sliceFields;refine qX (qX (wpAny_field hos hds (x:=vl) rfl (qX (wpAny_field hos hds (x:=vu) rfl (qX (wpAny_field hos hds (x:=.none) rfl (q9 ?_)))))));refine qX (slicePart_none ?_);show wpAny _ _ (if ((1:Int)==0)=true then _ else _) _ _ s;rw[if_neg (by decide)];refine qX (zEk pl (qX (zEk pu (qX (q9 ?_)))));show wpAny _ _ (match Builtin.Slice.sliceAdjust lo hi 1 (n:Int) with | (lo,hi)=>pure (lo,(1:Int),Builtin.Slice.slicePlaces lo hi 1)) _ _ s;rw[zI4 lo hi n];show wpAny _ _ (pure (((sIx n 0 lo:Nat):Int),(1:Int),Builtin.Slice.slicePlaces ((sIx n 0 lo:Nat):Int) ((sIx n n hi:Nat):Int) 1)) _ _ s;rw[zIY];exact q9 h
theorem zMR (xs:Array Value)(i k:Nat):((List.range k).filterMap λ(m:Nat)=>xs[((i:Int)+(m:Int)*1).toNat]?).toArray=((xs.toList.drop i).take k).toArray:=by
 have e:(λ(m:Nat)=>xs[((i:Int)+(m:Int)*1).toNat]?)=λm=>xs[i+m]?:=by
  funext m;have:((i:Int)+(m:Int)*1).toNat=i+m:=by omega
  rw[this]
 rw[e];have:=pick_run xs i k;rw[List.filterMap_map] at this;have e2:((λx=>xs[x]?)∘λx=>i+x)=λm=>xs[i+m]?:=rfl
 rw[e2] at this;rw[this]
theorem zDa {lo:Option Int}(ht:IsTup s.heap t items)(hs:s.heap.IsSliceOf sl vl vu .none)(pl:IsPart vl lo)(pu:IsPart vu hi)
  (hw:¬ (sIx items.size 0 lo=0/\sIx items.size items.size hi=items.size))
  (h:Q (.ref s.heap.objs.size) { s with heap:=s.heap.push { cls:=.type "tuple",data:=.seq ((items.toList.drop (sIx items.size 0 lo)).take (sIx items.size items.size hi - sIx items.size 0 lo)).toArray } })
  (hsz:items.size<=sizeLine):wpAny (model prog w) A (getItem (.ref t) (.ref sl)) Q E s:=by
 have htake:sizeOk (.seq ((items.toList.drop (sIx items.size 0 lo)).take (sIx items.size items.size hi - sIx items.size 0 lo)).toArray):=by
  show ((items.toList.drop (sIx items.size 0 lo)).take (sIx items.size items.size hi - sIx items.size 0 lo)).toArray.size<=sizeLine;rw[xy,length_take,length_drop,Array.length_toList];omega
 have hj:sIx items.size items.size hi<=items.size:=zRR _ _ (le_refl _) hi;obtain⟨os,hos,hcs,hds⟩:=id hs;have hTs:s.TypeIs (.ref sl) "slice":=⟨os,hos,hcs⟩;unfold getItem
 try with_reducible refine wpAny_holding ?_
 first | refine qX (q9 ?_) | skip
 refine qX (wpAny_sequenceKey ht.typeIs (by decide) ?_);refine qX (wpAny_callSpecial?_slot (name:=Str.ofString "__getitem__") ht.typeIs PyProof.Rows.slot_tuple_getitem
  (wpAny_call_entry PyProof.Rows.slot_tuple_getitem ht.typeIs entry_tuple_getitem ?_ (args_tuple_getitem _ _)))
 show wpAny _ _ (Builtin.Tuple.tupleItemsOf (.ref t)>>=_) _ _ s;refine qX (tupleItemsOf_ ht ?_);refine qX (wpAny_typeOf hTs ?_);rw[if_pos (by decide)];refine qX (zDq hs pl pu ?_);have hno:¬ ((((sIx items.size 0 lo:Nat):Int)==0&&(1:Int)==1&&(sIx items.size items.size hi - sIx items.size 0 lo)==items.size)=true):=by
  intro q;rw[x9,x9] at q;have q1:((sIx items.size 0 lo:Nat):Int)=0:=eq_of_beq q.1.1;have q2:sIx items.size items.size hi - sIx items.size 0 lo=items.size:=eq_of_beq q.2;exact hw ⟨by omega,by omega⟩
 show wpAny _ _ (if (((sIx items.size 0 lo:Nat):Int)==0&&(1:Int)==1&&(sIx items.size items.size hi - sIx items.size 0 lo)==items.size)=true then _ else _) _ _ s;rw[if_neg hno,zMR]
 first
  | exact qX (m:=Builtin.Tuple.tupleExact _) (wpAny_newObj_type (q9 ⟨_,rfl,q9 h⟩) htake)
  | exact qX (m:=Builtin.Tuple.tupleExact _) (wpAny_newObj_type (qX (q9 (q9 ⟨_,rfl,q9 h⟩))) htake)
  | exact qX (qX (m:=Builtin.Tuple.tupleExact _) (wpAny_newObj_type (q9 (q9 ⟨_,rfl,q9 h⟩)) htake))
  | exact qX (qX (m:=Builtin.Tuple.tupleExact _) (wpAny_newObj_type (q9 ⟨_,rfl,q9 h⟩) htake))
end
end HT
namespace L2
open PySem Spec PyProof.Rows
abbrev TO:=St->Hp->(Option Int->Hp->Prop)->Prop
def PO (X:Cx)(e:Option Expr)(t:TO):Prop :=
 ∀ (pins:List (Addr×Obj)) (s:Shared) (B:St) (H:Hp) (Q:Option Int->Hp->Prop),Inv X pins B H s->t B H Q ->
  wpAny (model X.prog X.w) X.A (evalPart e X.env) (λu s'=>∃ o H',Inv X pins B H' s'/\IsPart u o/\Q o H') X.xe s
def zOs:TO:=λ_ H Q=>Q none H
noncomputable def zTs (t:TE):TO:=λB H Q=>t B H λx H1=>∃ i,x=.int i/\Q (some i) H1
section
variable {X:Cx}{e:Expr}{te:TE}{lo hi:Option Expr}{tl th:TO}{pos p2:Pos}
theorem zPB:PO X none zOs:=by
 intro pins s B H Q I h;rw[evalPart_none];exact q9 ⟨none,H,I,.none,h⟩
theorem zPA (h:PE X e te):PO X (some e) (zTs te):=by
 intro pins s B H Q I hw;rw[evalPart_some];refine thn (h pins s B H _ I hw) λu s1 zz29=>?_
 obtain⟨x,H1,I1,r1,q1⟩:=zz29;obtain⟨i,rfl,q⟩:=q1;obtain⟨t,rfl⟩:=r1;exact⟨some i,H1,I1,.int i t,q⟩
def SlR (X:Cx)(r:V->Option Int->Option Int->Hp->VK->Prop):Prop :=
 ∀ (pins:List (Addr×Obj)) (s:Shared) (B:St) (H:Hp) (x:V) (v vl vu:Value) (lo hi:Option Int) (sl:Addr) (Q:VK),Inv X pins B H s->RelV x v->s.heap.IsSliceOf sl vl vu .none->IsPart vl lo->IsPart vu hi->r x lo hi H Q ->
  ∃ T id,typeLookup (.type T) "__getitem__"=pure (some (.builtin id))/\s.TypeIs v T/\wpAny (model X.prog X.w) X.A (getItem v (.ref sl)) (EP X pins B Q) X.xe s
theorem SlR.or (h:SlR X r)(h':SlR X r'):SlR X (λx lo hi H Q=>r x lo hi H Q\/r' x lo hi H Q):=by
 intro pins s B H x v vl vu lo hi sl Q I rx hs pl pu q;rcases q with q | q
 .exact h pins s B H x v vl vu lo hi sl Q I rx hs pl pu q
 .exact h' pins s B H x v vl vu lo hi sl Q I rx hs pl pu q
def tSl (r:V->Option Int->Option Int->Hp->VK->Prop)(te:TE)(tl th:TO):TE:=λB H Q=>te B H λx H1=>tl B H1 λl H2=>th B H2 λu H3=>r x l u H3 Q
theorem zMS (hr:SlR X r)(he:PE X e te)(hl:PO X lo tl)(hu:PO X hi th):PE X (.Subscript e (.Slice lo hi none p2) pos) (tSl r te tl th):=by
 intro pins s B H Q I h;refine Subscript_ (thn (he pins s B H _ I h) λv s1 zz30=>?_);obtain⟨x,H1,I1,r1,q1⟩:=zz30;refine wpAny_Slice (thn (hl pins s1 B H1 _ I1 q1) λvl s2 ⟨l,H2,I2,pl,q2⟩=>thn (hu pins s2 B H2 _ I2 q2) λvu s3 zz31=>?_);obtain⟨u,H3,I3,pu,q3⟩:=zz31;rw[evalPart_none];refine q9 ?_;have I4:Inv X pins B H3 { s3 with heap:=s3.heap.push { cls:=.type "slice",data:=.fields #[vl,vu,.none] } }:=I3.kept (t':=s3.toks) λb ob q=>get?_push_of_some _ q
 obtain⟨T,id,hT,ht,hg⟩:=hr pins { s3 with heap:=s3.heap.push { cls:=.type "slice",data:=.fields #[vl,vu,.none] } } B H3 x v vl vu l u s3.heap.objs.size Q I4 r1 (Heap.IsSliceOf.new ..) pl pu q3;show wpAny (model X.prog X.w) X.A (subscriptTail e (.Slice lo hi none p2) v (.ref s3.heap.objs.size)) (EP X pins B Q) X.xe { s3 with heap:=s3.heap.push { cls:=.type "slice",data:=.fields #[vl,vu,.none] } };exact tail_any (ops:=[.ref s3.heap.objs.size,v]) ht hT hg (by with_unfolding_all rfl)
noncomputable def cutV (xs:List V)(lo hi:Option Int):List V:=(xs.drop (HT.sIx xs.length 0 lo)).take (HT.sIx xs.length xs.length hi - HT.sIx xs.length 0 lo)
theorem zEX (xs:List V)(lo hi:Option Int):(cutV xs lo hi).length<=xs.length:=by
 unfold cutV;rw[length_take,length_drop];omega
def rSlT (K:W.Frag):V->Option Int->Option Int->Hp->VK->Prop:=λx lo hi H Q=>∃ a xs,x=.ref a/\SqT K H a xs /\
 ¬ (HT.sIx xs.length 0 lo=0/\HT.sIx xs.length xs.length hi=xs.length)/\∀ p,H p=none->Q (.ref p) (upd H p (.tup (cutV xs lo hi)))
theorem zRO:SlR X (rSlT X.K):=by
 intro pins s B H x v vl vu lo hi sl Q I rx hs pl pu h;obtain⟨a,xs,rfl,hx,hw,q⟩:=h;cases rx;obtain⟨its,r,ht,hz⟩:=I.tuple hx;have hlen:its.toArray.size=xs.length:=by rw[xy];exact r.length.symm
 refine⟨"tuple",_,PyProof.Rows.slot_tuple_getitem.lookup,ht.typeIs,?_⟩;refine HT.zDa ht hs pl pu (by rw[hlen];exact hw) ?_ (by rw[hlen];exact hz);rw[hlen];refine⟨.ref s.heap.objs.size,_,I.laid (t':=s.toks) (o:=.tup (cutV xs lo hi)) (λb ob q=>get?_push_of_some _ q) (le_refl _) ?_,rfl,q _ (I.hok.fresh (le_refl _))⟩;exact⟨le_trans (zEX xs lo hi) hz,_,(r.drop (HT.sIx xs.length 0 lo)).take (HT.sIx xs.length xs.length hi - HT.sIx xs.length 0 lo),IsTup.new _ _⟩
def zRW (K:W.Frag):R2:=λx y H Q=>∃ a b xs ys,x=.ref a/\y=.ref b/\SqT K H a xs/\SqT K H b ys/\xs≠[]/\xs.length+ys.length<=sizeLine /\
 (ys=[]->Q (.ref a) H)/\(ys≠[]->∀ p,H p=none->Q (.ref p) (upd H p (.tup (xs++ys))))
theorem Vals.nil_iff (r:Vals xs us):us=[]<->xs=[]:=by
 cases r with
 | nil=>simp
 | cons _ _=>simp
theorem zPS:OpR X (binaryOp .Add) (zRW X.K):=by
 intro pins s B H x y v u Q I rx ry h;obtain⟨a,b,xs,ys,rfl,rfl,ha,hb,hx,hz,q1,q2⟩:=h;cases rx;cases ry;obtain⟨its,r1,p1,_⟩:=I.tuple ha;obtain⟨its2,r2,p2,_⟩:=I.tuple hb;refine HT.zQy p1 p2 (λz=>hx (r1.nil_iff.mp z)) (λz=>⟨.ref a,H,I,rfl,q1 (r2.nil_iff.mp z)⟩) (λz=>?_) (by rw[<- r1.length,<- r2.length];exact hz);refine⟨.ref s.heap.objs.size,_,I.laid (t':=s.toks) (o:=.tup (xs++ys)) (λb ob q=>get?_push_of_some _ q) (le_refl _) ?_,rfl,q2 (λw=>z (r2.nil_iff.mpr w)) _ (I.hok.fresh (le_refl _))⟩;exact⟨by rw[qQ];exact hz,_,r1.append r2,IsTup.new _ _⟩
end
end L2
namespace L2
open PySem Spec PyProof.Rows
noncomputable def ixN (n:Nat)(i:Int):Option Nat:=if 0<=i then (if i < n then some i.toNat else none) else if -(n:Int)<=i then some (i+n).toNat else none
noncomputable def atI {U:Type}(xs:List U)(i:Int):Option U:=(ixN xs.length i).bind λj=>xs[j]?
theorem zPs (h:ixN n i=some j):seqIndex? i n=some j/\j < n/\-(n:Int)<=i/\i < n:=by
 unfold ixN at h;by_cases h0:0<=i
 .rw [if_pos h0] at h;by_cases h1:i < n
  .rw [if_pos h1] at h;have e:i.toNat=j:=xj h;exact⟨by rw[seqIndex_of h0 h1,e],by omega,by omega,h1⟩
  .rw [if_neg h1] at h;cases h
 .rw [if_neg h0] at h;by_cases h1:-(n:Int)<=i
  .rw [if_pos h1] at h;have e:(i+n).toNat=j:=xj h;exact⟨by rw[seqIndex_neg (by omega) h1,e],by omega,h1,by omega⟩
  .rw [if_neg h1] at h;cases h
theorem zLm {U:Type}{xs:List U}{i:Int}{v:U}(h:atI xs i=some v):∃ j,seqIndex? i xs.length=some j/\xs[j]?=some v/\j < xs.length/\-(xs.length:Int)<=i/\i < xs.length:=by
 unfold atI at h;cases e:ixN xs.length i with
 | none=>rw[e] at h;cases h
 | some j =>
  rw[e] at h;obtain⟨h1,h2,h3,h4⟩:=zPs e;exact⟨j,h1,h,h2,h3,h4⟩
theorem zAn {U:Type}{xs:List U}{j:Nat}{v:U}(h:xs[j]?=some v):atI xs (j:Int)=some v:=by
 have hj:j < xs.length:=(zzg h).1;have e:ixN xs.length (j:Int)=some j:=by
  unfold ixN;rw[if_pos (by omega),if_pos (by omega)];simp
 unfold atI;rw[e];exact h
def zFs (b:Expr):Prop:=∀ o i,subscripted b false o i=operate [o,i] (getItem o i)
def IxR (X:Cx)(r:R2):Prop :=
 ∀ (value slice:Expr) (pins:List (Addr×Obj)) (s:Shared) (B:St) (H:Hp) (x y:V) (v u:Value) (Q:VK),Inv X pins B H s->RelV x v->RelV y u->r x y H Q ->
  subscripted slice false v u=operate [v,u] (getItem v u)->wpAny (model X.prog X.w) X.A (subscriptTail value slice v u) (EP X pins B Q) X.xe s
def MtR (X:Cx)(id:String)(r:V->List V->Hp->VK->Prop):Prop :=
 ∀ (pins:List (Addr×Obj)) (s:Shared) (B:St) (H:Hp) (x:V) (xs:List V) (v:Value) (us:List Value) (Q:VK),Inv X pins B H s->RelV x v->Vals xs us->r x xs H Q ->
  wpAny (model X.prog X.w) X.A (call (.builtin id) (v::us)) (EP X pins B Q) X.xe s
section
variable {X:Cx}{a b:Expr}{ta tb:TE}{pos:Pos}
theorem IxR.or (h:IxR X r)(h':IxR X r'):IxR X (λx y H Q=>r x y H Q\/r' x y H Q):=by
 intro value slice pins s B H x y v u Q I rx ry q hs;rcases q with q | q
 .exact h value slice pins s B H x y v u Q I rx ry q hs
 .exact h' value slice pins s B H x y v u Q I rx ry q hs
theorem zRj (hr:IxR X r)(ha:PE X a ta)(hb:PE X b tb)(hs:zFs b):PE X (.Subscript a b pos) (tOp r ta tb):=by
 intro pins s B H Q I h;exact Subscript_ (binT ha hb I h λv u s2 x y H2 I2 rx ry q=>hr a b pins s2 B H2 x y v u Q I2 rx ry q (hs _ _))
def rIxL (K:W.Frag):R2:=λx y H Q=>∃ p xs i v,x=.ref p/\y=.int i/\SqL K H p xs/\atI xs i=some v/\Q v H
def rIxT (K:W.Frag):R2:=λx y H Q=>∃ p xs i v,x=.ref p/\y=.int i/\SqT K H p xs/\atI xs i=some v/\Q v H
theorem zKZ:IxR X (rIxL X.K):=by
 intro value slice pins s B H x y v u Q I rx ry h hs;obtain⟨p,xs,i,z,rfl,rfl,hq,he,q⟩:=h;cases rx;obtain⟨t,rfl⟩:=ry;obtain⟨its,r,pl,hz⟩:=I.list hq;obtain⟨j,h1,h2,h3,h4,h5⟩:=zLm he;obtain⟨w,ew,rw'⟩:=r.get h2;have hl:=r.length;have hn:=zKX;have fin:EP X pins B Q w s:=⟨z,H,I,rw',q⟩;by_cases h0:0<=i
 .have hj:i.toNat=j:=by
   rw[seqIndex_of h0 h5] at h1;exact xj h1
  exact item_listR pl.isList h0 (by omega) (by rw[hj];simpa using ew) fin hs
 .have hj:(i+(its.toArray.size:Int)).toNat=j:=by
   rw[seqIndex_neg (by omega) h4] at h1;rw[xy,<- hl];exact xj h1
  exact subscriptTail_builtinR (x:=w) pl.isList.typeIs slot_list_getitem.lookup
   (wpAny_getItem_list_neg (Q:=λr s'=>r=w/\EP X pins B Q r s') pl.isList (by omega) (by rw[xy]<;>omega) (by omega) (by rw[hj];simpa using ew) ⟨rfl,fin⟩) hs
theorem zOM:IxR X (rIxT X.K):=by
 intro value slice pins s B H x y v u Q I rx ry h hs;obtain⟨p,xs,i,z,rfl,rfl,hq,he,q⟩:=h;cases rx;obtain⟨t,rfl⟩:=ry;obtain⟨its,r,pl,hz⟩:=I.tuple hq;obtain⟨j,h1,h2,h3,h4,h5⟩:=zLm he;obtain⟨w,ew,rw'⟩:=r.get h2;have hl:=r.length;have hn:=zKX;have fin:EP X pins B Q w s:=⟨z,H,I,rw',q⟩;exact subscriptTail_builtinR (x:=w) pl.typeIs slot_tuple_getitem.lookup
  (getItem_tuple (j:=j) (Q:=λr s'=>r=w/\EP X pins B Q r s') pl (by omega) (by omega) (by rw[xy,<- hl];exact h1) (by simpa using ew) ⟨rfl,fin⟩) hs
theorem Inv.lst {pins:List (Addr×Obj)}{B:St}{H:Hp}{s:Shared}{p:Addr}{xs:List V}(I:Inv X pins B H s)(h:H p=some (.lst xs)) :
  ∃ (its:List Value) (n:Nat),Vals xs its/\s.heap.get? p=some { cls:=.type "list",data:=.seq its.toArray n }/\xs.length<=sizeLine:=by
 obtain⟨z,its,n,r,e⟩:=I.hok p _ h;exact⟨its,n,r,e,z⟩
theorem zF2 (lo hi:Option Int)(n:Nat):(sliceBounds lo hi none n).1=((HT.sIx n 0 lo:Nat):Int)/\(sliceBounds lo hi none n).2.1=((HT.sIx n n hi:Nat):Int)/\(sliceBounds lo hi none n).2.2=1:=by
 refine⟨?_,?_,rfl⟩
 .cases lo with
  | none=>simp[sliceBounds,HT.sIx]
  | some i =>
   simp only[sliceBounds,HT.sIx,Option.getD_none,show (1:Int)>0 by decide,if_true];by_cases h:i < 0
   .simp only [h,if_true]<;>omega
   .simp only [h,if_false]<;>omega
 .cases hi with
  | none=>simp[sliceBounds,HT.sIx]
  | some i =>
   simp only[sliceBounds,HT.sIx,Option.getD_none,show (1:Int)>0 by decide,if_true];by_cases h:i < 0
   .simp only [h,if_true]<;>omega
   .simp only [h,if_false]<;>omega
theorem zFJ (its:List Value)(lo hi:Option Int):slicePick its.toArray lo hi none=((its.drop (HT.sIx its.length 0 lo)).take (HT.sIx its.length its.length hi - HT.sIx its.length 0 lo)).toArray:=by
 obtain⟨h1,h2,h3⟩:=zF2 lo hi its.toArray.size;unfold slicePick;rw[h1,h2,h3];simp only[sliceRange_one,pick_run,xy]<;>rfl
def rSlL (K:W.Frag):V->Option Int->Option Int->Hp->VK->Prop:=λx lo hi H Q=>∃ a xs,x=.ref a/\SqL K H a xs/\∀ p,H p=none->Q (.ref p) (upd H p (.lst (cutV xs lo hi)))
theorem zOv:SlR X (rSlL X.K):=by
 intro pins s B H x v vl vu lo hi sl Q I rx hs pl pu h;obtain⟨a,xs,rfl,hx,q⟩:=h;cases rx;obtain⟨its,r,ht,hz⟩:=I.list hx;have hlen:=r.length;refine⟨"list",_,slot_list_getitem.lookup,ht.isList.typeIs,?_⟩;refine wpAny_getItem_list_slice ht.isList hs pl pu .none (by simp) ?_ (by rw[xy]<;>omega);rw[zFJ,<- hlen];refine⟨.ref s.heap.objs.size,_,I.laid (t':=s.toks) (o:=.lst (cutV xs lo hi)) (λb ob q=>get?_push_of_some _ q) (le_refl _) ?_,rfl,q _ (I.hok.fresh (le_refl _))⟩;exact⟨le_trans (zEX xs lo hi) hz,_,0,(r.drop (HT.sIx xs.length 0 lo)).take (HT.sIx xs.length xs.length hi - HT.sIx xs.length 0 lo),get?_push_size _ rfl⟩
theorem zGe:zDv X (.builtin "len") (λxs H Q=>∃ p ys,xs=[.ref p]/\(SqL X.K H p ys\/SqT X.K H p ys)/\Q (.int ys.length) H):=by
 intro pins s B H xs us Q I r h;obtain⟨p,ys,rfl,hq,q⟩:=h;obtain⟨u,rfl,rx⟩:=zGm r;cases rx;have hn:=zKX;rcases hq with hq | hq
 .obtain ⟨its,r',pl,hz⟩:=I.list hq;have hlen:=r'.length;exact Calls.call_len_list pl.isList (by simp only[xy]<;>omega) ⟨.int ys.length,H,I.tok _,⟨s.toks+1,by rw[xy,hlen]⟩,q⟩
 .obtain ⟨its,r',pl,hz⟩:=I.tuple hq;have hlen:=r'.length;exact len_tuple pl (by simp only[xy]<;>omega) ⟨.int ys.length,H,I.tok _,⟨s.toks+1,by rw[xy,hlen]⟩,q⟩
theorem zGd:zDv X (.type "list") (λxs H Q=>∃ p ys,xs=[.ref p]/\(SqL X.K H p ys\/SqT X.K H p ys)/\∀ l,H l=none->Q (.ref l) (upd H l (.lst ys))):=by
 intro pins s B H xs us Q I r h;obtain⟨p,ys,rfl,hq,q⟩:=h;obtain⟨u,rfl,rx⟩:=zGm r;cases rx;have fin:∀ (its:List Value),Vals ys its->ys.length<=sizeLine->∀ (h':Heap) (c':Nat),(∀ b o',s.heap.get? b=some o'->h'.get? b=some o') ->
   h'.get? s.heap.objs.size=some { cls:=.type "list",dict:=none,data:=.seq its.toArray c',slots:=#[] }->EP X pins B Q (.ref s.heap.objs.size) { s with heap:=h' }:=λits r' hz h' c' kp e =>
  ⟨.ref s.heap.objs.size,_,I.laid (t':=s.toks) kp (le_refl _) (show zBm X.prog X.w _ h' _ (.lst ys) from ⟨hz,its,c',r',e⟩),rfl,q _ (I.hok.fresh (le_refl _))⟩
 rcases hq with hq | hq
 .obtain ⟨its,r',pl,hz⟩:=I.list hq;have hlen:=r'.length;obtain⟨o,ho,hc,n,hd⟩:=pl.isList;exact call_list_seq p (.inl rfl) ho hc hd (λh' c' kp e=>fin its r' hz h' c' kp e) (by simp only[xy]<;>omega)
 .obtain ⟨its,r',pl,hz⟩:=I.tuple hq;have hlen:=r'.length;obtain⟨o,ho,hc,n,hd⟩:=pl;exact call_list_seq p (.inr rfl) ho hc hd (λh' c' kp e=>fin its r' hz h' c' kp e) (by simp only[xy]<;>omega)
theorem zFo:zDv X (.type "tuple") (λxs H Q=>∃ p ys,xs=[.ref p]/\((SqL X.K H p ys/\∀ l,H l=none->Q (.ref l) (upd H l (.tup ys)))\/(SqT X.K H p ys/\Q (.ref p) H))):=by
 intro pins s B H xs us Q I r h;obtain⟨p,ys,rfl,h⟩:=h;obtain⟨u,rfl,rx⟩:=zGm r;cases rx;rcases h with ⟨hq,q⟩ | ⟨hq,q⟩
 .obtain ⟨its,r',pl,hz⟩:=I.list hq;have hlen:=r'.length;refine call_tuple_list pl.isList (λh' kp=>?_) (by simp only[xy]<;>omega);have I1:Inv X pins B H { s with heap:=h' }:=I.kept (t':=s.toks) kp;have I2:Inv X pins B (upd H h'.objs.size (.tup ys)) { s with heap:=h'.push { cls:=.type "tuple",data:=.seq its.toArray } } :=
   I1.laid (t':=s.toks) (λb o e=>get?_push_of_some _ e) (le_refl _) (show zBm X.prog X.w _ _ _ (.tup ys) from ⟨hz,its,r',IsTup.new _ _⟩)
  exact⟨.ref h'.objs.size,_,I2,rfl,q _ (I1.hok.fresh (le_refl _))⟩
 .obtain ⟨its,r',pl,hz⟩:=I.tuple hq;exact call_tuple_same pl ⟨.ref p,H,I,rfl,q⟩
def tyV (K:W.Frag)(T:String)(x:V)(H:Hp):Prop:=match x with
 | .str _=>T = "str"
 | .int _=>T = "int"
 | .ref p=>(T = "list"/\∃ xs,SqL K H p xs)\/(T = "tuple"/\∃ o,K.lookup p=some o/\o.cls=.type "tuple"/\o.dict=none) \/
   (T = "dict"/\((∃ kvs,H p=some (.dK kvs))\/∃ kvs,H p=some (.dT kvs)))\/(T = "set"/\∃ S n,H p=some (.set S n))
 | _=>False
theorem zNt {pins:List (Addr×Obj)}{B:St}{H:Hp}{s:Shared}{T:String}{x:V}{v:Value}(I:Inv X pins B H s)(r:RelV x v)(ty:tyV X.K T x H) :
  s.TypeIs v T/\∀ a,v=.ref a->∃ ob,s.heap.get? a=some ob/\ob.dict=none:=by
 cases x with
 | str z =>
  obtain⟨t,rfl⟩:=r;cases (show T = "str" from ty);exact⟨typeIs_str s z t,λ_ e=>nomatch e⟩
 | int i =>
  obtain⟨t,rfl⟩:=r;cases (show T = "int" from ty);exact⟨typeIs_int s i t,λ_ e=>nomatch e⟩
 | ref p =>
  cases r;rcases ty with ⟨rfl,xs,hq⟩ | ⟨rfl,o,hk,hc,hd⟩ | ⟨rfl,hk⟩ | ⟨rfl,S,n,hk⟩
  .obtain ⟨its,_,pl,_⟩:=I.list hq;refine⟨pl.isList.typeIs,λa e=>?_⟩;cases e;obtain⟨o,n,e,c,hd,_⟩:=pl;exact⟨o,e,hd⟩
  .refine ⟨⟨o,I.kIn p o hk,hc⟩,λa e=>?_⟩;cases e;exact⟨o,I.kIn _ o hk,hd⟩
  .have z:∃ o,s.heap.get? p=some o/\o.ExactDict:=by
    rcases hk with ⟨kvs,hk⟩ | ⟨kvs,hk⟩
    .obtain ⟨_,_,_,_,o,_,_,e,ex,_⟩:=I.hok p _ hk;exact⟨o,e,ex⟩
    .obtain ⟨_,_,_,_,o,_,_,e,ex,_⟩:=I.hok p _ hk;exact⟨o,e,ex⟩
   obtain⟨o,e,ex⟩:=z;refine⟨⟨o,e,ex.1⟩,λa e2=>?_⟩;cases e2;exact⟨o,e,ex.2.1⟩
  .obtain ⟨o,_,_,_,e,ex,_⟩:=I.hok p _ hk;refine⟨⟨o,e,ex.1⟩,λa e2=>?_⟩;cases e2;exact⟨o,e,ex.2.1⟩
 | _=>exact False.elim ty
def tBM0 (K:W.Frag)(T:String)(r:V->List V->Hp->VK->Prop)(to:TE):TE:=λB H Q=>to B H λx H1=>tyV K T x H1/\r x [] H1 Q
def tBM (K:W.Frag)(T:String)(r:V->List V->Hp->VK->Prop)(to:TE)(t:TA):TE:=λB H Q=>to B H λx H1=>tyV K T x H1/\t B H1 λxs H2=>r x xs H2 Q
variable {o e:Expr}{es:List Expr}{to:TE}{t:TA}{name:Str}{apos cpos:Pos}{T id:String}{r:V->List V->Hp->VK->Prop}
theorem zRl (pa:PlainAttrs T)(slot:Slot T name id)(hty:typeOf (.builtin id)=pure (.type "method_descriptor"))(hm:MtR X id r)(ho:PE X o to)
  (hbase:attributeBase o name X.env (eval o X.env)=eval o X.env:=by rfl) (hline:(apos.endLine==cpos.line)=true:=by rfl):PE X (.Call (.Attribute o name apos) [] [] cpos) (tBM0 X.K T r to):=by
 intro pins s B H Q I h;refine wpAny_Call_method0_late hbase hline (thn (ho pins s B H _ I h) λv s1 zz32=>?_);obtain⟨x,H1,I1,r1,ty,q1⟩:=zz32;obtain⟨h1,h2⟩:=zNt I1 r1 ty;exact⟨T,id,pa,slot,hty,h1,h2,Calls.callWith_builtin rfl (PySem.evalArgs_none (hm pins s1 B H1 x [] v [] Q I1 r1 .nil q1))⟩
theorem zPH (pa:PlainAttrs T)(slot:Slot T name id)(hty:typeOf (.builtin id)=pure (.type "method_descriptor"))(hm:MtR X id r)(ho:PE X o to)(ha:PA X (e::es) t)
  (hbase:attributeBase o name X.env (eval o X.env)=eval o X.env:=by rfl)
  (hfew:((backTo cpos (starEach (e::es) X.env)).all (λx=>!x.1)&&(backToKw cpos (keywordEach [] X.env)).all (λx=>x.1.isSome)
   && decide ((e::es).length+([]:List Keyword).length+(if ([]:List Keyword).isEmpty then 0 else 1) < 30))=true:=by rfl)
  (hline:(apos.endLine==cpos.line)=true:=by rfl) (hs:starEach (e::es) X.env=(false,eval e X.env)::starEach es X.env:=by rfl) (hplain:(backTo cpos (starEach es X.env)).any (·.1)=false:=by rfl) :
  PE X (.Call (.Attribute o name apos) (e::es) [] cpos) (tBM X.K T r to t):=by
 intro pins s B H Q I h;refine wpAny_Call_method_late hbase hfew hline rfl (thn (ho pins s B H _ I h) λv s1 zz33=>?_);obtain⟨x,H1,I1,r1,ty,q1⟩:=zz33;obtain⟨h1,h2⟩:=zNt I1 r1 ty;refine⟨T,id,pa,slot,hty,h1,h2,?_⟩;have hA:=ha cpos pins s1 B H1 _ I1 q1;rw[hs] at hA ⊢;refine Calls.callWith_builtin (by show (false||(backTo cpos (starEach es X.env)).any (·.1))=false;rw[hplain]<;>rfl) (Calls.evalArgs_plain ?_);exact thn hA λus s2 zy126=>by obtain⟨vs,H2,I2,r2,q2⟩:=zy126;exact hm pins s2 B H2 x vs v us Q I2 r1 r2 q2
end
def MtM (X:Cx)(id:String)(r:V->List V->Hp->VK->Prop):Prop :=
 ∀ (pins:List (Addr×Obj)) (s:Shared) (B:St) (H:Hp) (x:V) (xs:List V) (v:Value) (us:List Value) (Q:VK),Inv X pins B H s->RelV x v->Vals xs us->r x xs H Q ->
  wpAny (model X.prog X.w) X.A (call (.builtin id) (v::us)) (EP X pins B Q) X.xe s
theorem Vals.one:∀ {x:V} {us:List Value},Vals [x] us->∃ u,us=[u]/\RelV x u
 | _,_,.cons r .nil=>⟨_,rfl,r⟩
theorem Vals.two (h:Vals [x,y] us):∃ u v,us=[u,v]/\RelV x u/\RelV y v:=by
 cases h with
 | cons r t =>
  cases t with
  | cons q t2 =>
   cases t2;exact⟨_,_,rfl,r,q⟩
theorem Vals.zero:∀ {us:List Value},Vals [] us->us=[]
 | _,.nil=>rfl
theorem Vals.dropLast (h:Vals xs us):Vals xs.dropLast us.dropLast:=by
 induction h with
 | nil=>exact .nil
 | cons r t ih =>
  cases t with
  | nil=>exact .nil
  | cons q t'=>exact .cons r ih
section
variable {X:Cx}{pins:List (Addr×Obj)}{B:St}{H:Hp}{s:Shared}{l b:Addr}{xs ys zs:List V}
theorem Inv.lset {its:List Value}(I:Inv X pins B H s)(hH:H l=some (.lst xs))
  (e:s.heap.get? l=some { cls:=.type "list",data:=.seq its.toArray n }) (hf:f its.toArray=its'.toArray) (hv:Vals ys its') (hz:ys.length<=sizeLine) :
  Inv X pins B (upd H l (.lst ys)) { s with heap:=s.heap.update l (Obj.mapSeq f),toks:=t' }:=by
 have q:=PySem.IsL.update e f;rw[hf] at q;refine I.write (x:=l) (e:=l) (by rw[hH];exact trivial) (.inl rfl) (λb' u hb hu=>(Heap.get?_update_other s.heap (Obj.mapSeq f) (Ne.symm hb)).trans hu) ⟨_,q⟩ ?_;exact⟨hz,its',_,hv,q⟩
theorem Inv.lnew (I:Inv X pins B H s)(hv:Vals ys its)(hz:ys.length<=sizeLine) :
  Inv X pins B (upd H s.heap.objs.size (.lst ys)) { s with heap:=s.heap.push { cls:=.type "list",data:=.seq its.toArray },toks:=t' } :=
 I.laid (λ_ _ q=>get?_push_of_some _ q) (le_refl _) ⟨hz,its,0,hv,get?_push_size _ rfl⟩
theorem Inv.fresh (I:Inv X pins B H s):H s.heap.objs.size=none:=I.hok.fresh (le_refl _)
theorem Inv.lstM (I:Inv X pins B H s)(hH:H l=some (.lst xs)):xs.length<=sizeLine/\∃ (its:List Value) (n:Nat),Vals xs its/\xs.length=its.length/\s.heap.get? l=some { cls:=.type "list",data:=.seq its.toArray n }:=by
 obtain⟨z,its,n,r,e⟩:=I.hok l _ hH;exact⟨z,its,n,r,r.length,e⟩
theorem zMa (h:n<=sizeLine):Builtin.List.listTooLong n=false:=by
 unfold Builtin.List.listTooLong;exact decide_eq_false (by omega)
end
section
variable {X:Cx}
def zO6:V->List V->Hp->VK->Prop:=λx vs H Q=>∃ l xs y,x=.ref l/\vs=[y]/\H l=some (.lst xs)/\xs.length < sizeLine/\Q .non (upd H l (.lst (xs++[y])))
theorem zGG:MtM X "list.append" zO6:=by
 intro pins s B H x vs v us Q I rx rv h;obtain⟨l,xs,y,rfl,rfl,hH,hz,q⟩:=h;cases rx;obtain⟨u,rfl,ru⟩:=rv.one;obtain⟨z,its,n,r,hl,e⟩:=I.lstM hH;refine call_meets F.slot_list_append ⟨_,e,rfl⟩ F.entry_list_append (F.args_list_append_2 _ _) (PySem.list_append l its.toArray n u (by rw[xy];omega)) ⟨e,?_⟩;refine⟨.non,_,I.lset (its':=its++[u]) hH e (by simp) (r.append (.cons ru .nil)) ?_,rfl,q⟩;rw[qQ,length_singleton];omega
def zO5:V->List V->Hp->VK->Prop:=λx vs H Q=>∃ l b xs zs,x=.ref l/\vs=[.ref b]/\H l=some (.lst xs)/\H b=some (.lst zs)/\xs.length+zs.length<=sizeLine/\Q .non (upd H l (.lst (xs++zs)))
theorem zKH:MtM X "list.extend" zO5:=by
 intro pins s B H x vs v us Q I rx rv h;obtain⟨l,b,xs,zs,rfl,rfl,hH,hB,hz,q⟩:=h;cases rx;obtain⟨u,rfl,ru⟩:=rv.one;cases ru;obtain⟨z,its,n,r,hl,e⟩:=I.lstM hH;obtain⟨z2,its2,n2,r2,hl2,e2⟩:=I.lstM hB;have hsz:its.toArray.size+its2.toArray.size<=sizeLine:=by rw[xy,xy];omega
 have hlong:¬ (!its.toArray.isEmpty&&Builtin.List.listTooLong (its.toArray.size+its2.toArray.size))=true:=by
  rw[zMa hsz,Bool.and_false];exact qY
 refine call_meets F.slot_list_extend ⟨_,e,rfl⟩ F.entry_list_extend (F.args_list_extend_2 _ _)
  (AutoSeq1.list_extend_list_list_0 l its.toArray n b its2.toArray n2 hlong (by rw[xy];omega) (by omega)) ⟨e,e2,?_⟩
 refine⟨.non,_,I.lset (its':=its++its2) hH e (by simp) (r.append r2) ?_,rfl,q⟩;rw[qQ];omega
def zRV:V->List V->Hp->VK->Prop:=λx vs H Q=>∃ l xs,x=.ref l/\vs=[]/\H l=some (.lst xs)/\Q .non (upd H l (.lst []))
theorem zMc:MtM X "list.clear" zRV:=by
 intro pins s B H x vs v us Q I rx rv h;obtain⟨l,xs,rfl,rfl,hH,q⟩:=h;cases rx;have hus:=rv.zero;subst hus;obtain⟨z,its,n,r,hl,e⟩:=I.lstM hH;refine call_meets F.slot_list_clear ⟨_,e,rfl⟩ F.entry_list_clear (F.args_list_clear_1 _) (AutoSeq1.list_clear_list_0 l its.toArray n (by rw[xy];omega)) ⟨e,?_⟩;exact⟨.non,_,I.lset (its':=[]) (ys:=[]) hH e rfl .nil (zero_le _),rfl,q⟩
theorem zG5 {U:Type}(xs:List U)(k:Nat):(List.replicate k xs).flatten.length=k*xs.length:=by
 induction k with
 | zero=>simp
 | succ k ih=>rw[replicate_succ,flatten_cons,qQ,ih,Nat.succ_mul,Nat.add_comm]
end
end L2
namespace Att
open PySem PySem.W PySem.Calls PyProof.Rows
theorem zEM :∀ (ns:List Int) (vs:List Value),WellAll P h vs (ns.map WData.int)->IntsAre vs ns:=by
 intro ns
 induction ns with
 | nil =>
  intro vs w;rw[map_nil] at w;cases w;exact .nil
 | cons n ns ih =>
  intro vs w;rw[map_cons] at w;cases w with
  | cons a b =>
   cases a;exact .cons _ _ (ih _ b)
theorem zIK:∀ {ns:List Int},WData.weightAll (ns.map WData.int)<=2^20->∀ x∈ns,Builtin.Int.intBits x<=2^20
 | n::ns,h,x,hx=>by
  rw[map_cons,WData.weightAll,WData.weight] at h;rcases mem_cons.mp hx with rfl | hx
  .unfold Builtin.Int.intBits;omega
  .exact zIK (by omega) x hx
theorem zJW {l:OpenLaw}(hn:l.most=some n)
  (hpre:l.row.toRowW.claim.pre args=true) (hwl:WellAll P h vals args) (hlay:WData.layableAll args=true) :
  ∃ a vs ns,vals=[Value.ref a]/\args=[WData.list (ns.map WData.int)]/\h.get? a=some { cls:=.type "list",data:=.seq vs.toArray }/\IntsAre vs ns/\(ns.length<=n/\∀ x∈ns,Builtin.Int.intBits x<=2^20):=by
 have hsh:WShape.hasAll [] args [.list .int]=true:=(pre_splitW hpre).1;have hc:l.pre.holds [] { args:=args }=true:=(pre_splitW hpre).2;obtain⟨d,r,rfl,h1,h2⟩:=hasAllW_cons hsh;obtain rfl:=hasAllW_nil h2;obtain⟨xs,rfl,h3⟩:=hasW_list h1;obtain⟨ns,rfl⟩:=items_int h3;have hlen:ns.length<=n:=by
  unfold OpenLaw.pre at hc;have h4:(WTm.not (.lt (.lit (.int (n:Int))) (.len (.arg 0)))).holds [] { args:=[.list (ns.map .int)] }=true:=by
   have h4:=(holds_andW hc).1;rw[hn] at h4;exact h4
  have h5:=condW_of h4 (w_not (w_lt w_lit (w_len_list (w_arg rfl))));rw[qy] at h5;refine Nat.le_of_not_lt λq=>?_
  have q':(n:Int) < ((ns.length:Nat):Int):=by omega
  first
   | (rw[decide_eq_true q'] at h5;exact absurd h5 (by decide))
   | (simp at h5;omega)
 cases hwl with
 | cons w1 w2 =>
  cases w2;cases w1 with
  | list ho hall=>exact⟨_,_,ns,rfl,rfl,ho,zEM ns _ hall,hlen,zIK (of_decide_eq_true (Bool.and_eq_true_iff.mp (W.layW_cons hlay).1).2)⟩
theorem zJm (l:OpenLaw)(args:List WData):l.row.toRowW.claim.post args (.bool true) args=true :=
 postW_of (r:=l.row.toRowW) (X:=(true==true))
  (show WShape.has [] (.bool true) .bool=true by first | rfl | decide | simp[WShape.has,WShape.arms,WShape.armsAll])
  (show (WTm.eq .res (.lit (.bool true))).value [] { args:=args,res:=some (.bool true),after:=args }=some (.bool (true==true)) from w_eq_bool (w_res rfl) w_lit) rfl
theorem zHT {l:OpenLaw}
  (hn:l.most=some n) (hdf:d.params.defaults=[])
  (call:∀ (w:World) (s0 O2:Shared) (mg mb:Str->Option Value) (fa:Addr) (o:Obj) (pm cd doc:Value) (a:Addr) (vs:List Value) (ns:List Int),
   Ground q loose [] XP w s0 mg mb O2.heap->YP w O2.heap ->
   O2.heap.get? fa=some o->o.data=.func (docDef d.name d.params d.body d.scope pm cd doc)->O2.heap.CodeRec cd d.name->mg d.name=some (.ref fa) ->
   O2.heap.get? a=some { cls:=.type "list",data:=.seq vs.toArray }->IntsAre vs ns->(ns.length<=n/\∀ x∈ns,Builtin.Int.intBits x<=2^20)->O2.gens=#[] ->
   codeAny (model l.prog w) callerA (.call (.ref fa) ⟨[.ref a],[]⟩) (λr s'=>r=.ok (.ret (.bool true))/\OldK O2.heap s'.heap/\s'.os=O2.os/\AllBare s'.gens) O2) :
  WalkO q loose XP YP l.row.toRowW d [] (λf vs=>PySem.call f vs):=by
 intro w s0 O2 mg mb G Y fa o pm cd doc dV kV ho hd hcd hD hmg hg args vals as hpre hlay hrd hwl hlo;obtain rfl:dV=.none:=Dflts.none hD hdf;obtain rfl:kV=.none:=Dflts.noKw hD;obtain⟨a,vs,ns,rfl,rfl,hobj,hints,hlen⟩:=zJW hn hpre hwl hlay;refine enter_call (codeAny_mono (call w s0 O2 mg mb fa o pm cd doc a vs ns G Y ho (fd_plain hd) hcd hmg hobj hints hlen hg) λr s' hq=>?_);obtain⟨rfl,h2,h3,h4⟩:=hq;exact⟨.inl ⟨.bool true,.bool true,[],rfl,λ_=>rfl,.bool true,zJm l _,λ_=>⟨List.Pairwise.nil,λ_ hm=>(nomatch hm)⟩⟩,h2,h3,h4⟩
section
variable {prog:Program}{w:World}{A:Around}{E:Value->Shared->Prop}{s:Shared}{K:Frag}
end
end Att
namespace L2
open PySem Spec PyProof.Rows
theorem zC6:∀ {vs:List Value} {ns:List Int},IntsAre vs ns->Vals (ns.map V.int) vs
 | _,_,.nil=>.nil
 | _,_,.cons n t h=>.cons ⟨t,rfl⟩ (zC6 h)
def Only (H:Hp):Prop:=∀ b,H b=none\/∃ o xs,H b=some (.frz o (.lst xs))
def tblT (tl:List (Str×Addr×Addr)):List (Addr×Str):=tl.map λt=>(t.2.2,lamQ t.1)
noncomputable def hpT (tl:List (Str×Addr×Addr))(H:Hp):Hp:=λb=>match (tblT tl).lookup b with
 | some q=>some (.tbl q)
 | none=>H b
theorem zGI {M:Type}:∀ {l:List (Addr×M)} {a:Addr} {b:M},l.lookup a=some b->(a,b)∈l
 | [],_,_,e=>by cases e
 | (c,x)::r,a,b,e=>by
  rw[lookup_cons] at e;cases hb:a==c with
  | true=>rw[hb] at e;cases e;rw[eq_of_beq hb];exact .head _
  | false=>rw[hb] at e;exact .tail _ (zGI e)
theorem zEt:∀ {tl:List (Str×Addr×Addr)} {x:Str} {c P:Addr},(tl.map λt=>t.2.2).Nodup->(x,c,P)∈tl->(tblT tl).lookup P=some (lamQ x)
 | t::tl,x,c,P,nd,h=>by
  rcases mem_cons.mp h with e | h
  .cases e;unfold tblT;rw[map_cons,lookup_cons,beq_self_eq_true]
  .have n:=(nodup_cons.mp (show ((t.2.2)::tl.map λt=>t.2.2).Nodup from nd));have ne:(P==t.2.2)=false:=by
    refine beq_eq_false_iff_ne.mpr λz=>n.1 ?_
    rw[<- z];exact mem_map.mpr ⟨_,h,rfl⟩
   unfold tblT;rw[map_cons,lookup_cons,ne];exact zEt n.2 h
theorem zMo {K:W.Frag}{tl:List (Str×Addr×Addr)}
  (KX:K.In O2.heap) (hns:O2.heap.Ns mainGlobals mg) (hb:O2.heap.Ns builtinsNs mb) (hbb:∀ x:Str,x ≠ "__name__"->mb x=bootBuiltins x) (hlim:O2.heap.NoLimit) (hsr:O2.heap.NoSeer) (htr:(model P w).prog.given.tree=none) (hg:O2.gens=#[])
  (ha:O2.heap.get? a=some { cls:=.type "list",data:=.seq vs.toArray }) (hi:IntsAre vs ns) (hl:ns.length<=sizeLine) (hr:Room k callerA)
  (F:∀ base:Heap,K.In base->base.Ns mainGlobals mg->FnOk P w K mg base CX k fa fd [x] sp) (hbind:∀ (s:Shared) (u:Value),BindsTo s fd ⟨[u],[]⟩ [(x,u)])
  (hbm:∃ bm ob,mg "__builtins__"=some (.ref bm)/\bm≠builtinsNs/\O2.heap.get? bm=some ob/\ob.cls=.type "module"/\ob.dict=some builtinsNs/\ob.data=.plain) (htab:∀ t∈tl,W.CodeHd O2.heap t.2.1 t.2.2/\O2.heap.get? t.2.2=some (W.tabObj #[])) (htl:∀ x∈zBx,tabQ K x=tl.lookup x) (hnd:(tl.map λt=>t.2.2).Nodup) (hnt:W.noTabs K=true)
  (hsp:∀ H:Hp,(∀ xs,H a≠some (.lst xs))->SqL K H a (ns.map V.int)->sp [.ref a] H (λv _=>v=.bl true) λ_ _ _=>False)
  (hCX:∀ H e s',CX [] H O2 (λ_ _ _=>False) e s'->False) :
  codeAny (model P w) callerA (.call (.ref fa) ⟨[.ref a],[]⟩) (λr s'=>r=.ok (.ret (.bool true))/\OldK O2.heap s'.heap/\s'.os=O2.os/\AllBare s'.gens) O2:=by
 have rv:=zC6 hi;have lenV:=hi.length;have tat:∀ {b:Addr} {qq:Str},(tblT tl).lookup b=some qq->∃ c,W.CodeHd O2.heap c b/\O2.heap.get? b=some (W.tabObj #[]):=λ{b qq} e=>by
  obtain⟨t,mt,et⟩:=mem_map.mp (zGI e);cases et;exact⟨t.2.1,htab t mt⟩
 have tna:(tblT tl).lookup a=none:=by
  cases e:(tblT tl).lookup a with
  | none=>rfl
  | some qq =>
   obtain⟨_,_,e2⟩:=tat e;rw[ha] at e2;cases e2
 have core:∀ H0:Hp,Only H0->SqL K H0 a (ns.map V.int)->HOk P w H0 O2.heap->(∀ b,H0 b≠none->b=a)->(H0 a≠none->K.lookup a=none) ->
   codeAny (model P w) callerA (.call (.ref fa) ⟨[.ref a],[]⟩) (λr s'=>r=.ok (.ret (.bool true))/\OldK O2.heap s'.heap/\s'.os=O2.os/\AllBare s'.gens) O2:=by
  intro H0 hO0 hS0 hok0 hA0 hK0;obtain⟨H,eH⟩:∃ H:Hp,H=hpT tl H0:=⟨_,rfl⟩;have Hat:∀ {b:Addr} {qq:Str},(tblT tl).lookup b=some qq->H b=some (.tbl qq):=λ{b qq} e=>by rw[eH];unfold hpT;rw[e]
  have Hout:∀ {b:Addr},(tblT tl).lookup b=none->H b=H0 b:=λ{b} e=>by rw[eH];unfold hpT;rw[e]
  have H0t:∀ {b:Addr} {u:HO},H0 b=some u->H b=some u:=λ{b u} e=>by
   have z:b=a:=hA0 b (by rw[e];simp);rw[Hout (by rw[z];exact tna)];exact e
  have hS:SqL K H a (ns.map V.int):=by
   rcases hS0 with (z | ⟨o,z⟩) | z
   .exact .inl (.inl (H0t z))
   .exact .inl (.inr ⟨o,H0t z⟩)
   .exact .inr z
  have hL:∀ xs,H a≠some (.lst xs):=λxs e=>by
   rw[Hout tna] at e;rcases hO0 a with z | ⟨o,ys,z⟩
   .rw [z] at e;cases e
   .rw [z] at e;cases e
  have hok:HOk P w H O2.heap:=λb u e=>by
   cases z:(tblT tl).lookup b with
   | some qq =>
    rw[Hat z] at e;cases e;obtain⟨_,_,e2⟩:=tat z;exact⟨#[],e2,trivial,λpos cv z=>by cases (show (none:Option Value)=some cv from z)⟩
   | none =>
    rw[Hout z] at e;exact(hok0 b u e).stay (λ_ _ _ q=>q) (λ_ q=>H0t q) (λ_ _ q=>H0t q) λ_ _ _ q _=>H0t q
  have hT:zIL K H:=λx hx c P e=>Hat (by
   have e2:=htl x hx;rw[e] at e2;exact zEt hnd (PySem.mem_of_lookup e2.symm))
  have split:∀ {b:Addr},H b≠none->((tblT tl).lookup b=none/\b=a/\H0 a≠none)\/∃ qq,(tblT tl).lookup b=some qq:=λ{b} e=>by
   cases z:(tblT tl).lookup b with
   | some qq=>exact .inr ⟨qq,rfl⟩
   | none =>
    rw[Hout z] at e;have:=hA0 b e;exact .inl ⟨rfl,this,by rw[<- this];exact e⟩
  have base_of:∀ {b:Addr} {o:Obj},O2.heap.get? b=some o->H b=none->(hidT O2.heap H).get? b=some o:=λe n=>zMv e n
  have noA:∀ {b:Addr} {o:Obj} {es:Array DictEntry} {ep:Nat},O2.heap.get? b=some o->o.data=.dict es ep->H b=none:=λ{b o es ep} e d=>by
   cases q:H b with
   | none=>rfl
   | some u =>
    rcases split (b:=b) (by rw[q];simp) with ⟨_,e',_⟩ | ⟨qq,z⟩
    .subst e';rw[ha] at e;cases e;have d':Data.seq vs.toArray _=Data.dict es ep:=d;cases d'
    .obtain ⟨_,_,e2⟩:=tat z;rw[e2] at e;cases e;cases (show Data.fields #[]=Data.dict es ep from d)
  have noM:∀ {b:Addr} {o:Obj},O2.heap.get? b=some o->o.cls=.type "module"->H b=none:=λ{b o} e d=>by
   cases q:H b with
   | none=>rfl
   | some u =>
    rcases split (b:=b) (by rw[q];simp) with ⟨_,e',_⟩ | ⟨qq,z⟩
    .subst e';rw[ha] at e;cases e;exact absurd (show Value.type "list"=Value.type "module" from d) (by decide)
    .obtain ⟨_,_,e2⟩:=tat z;rw[e2] at e;cases e;exact absurd (show Value.none=Value.type "module" from d) (by decide)
  have nsK:∀ {b:Addr} {m:Str->Option Value},O2.heap.Ns b m->(hidT O2.heap H).Ns b m:=λ{b m} ⟨o,es,ep,e,d,r⟩=>⟨o,es,ep,base_of e (noA e d),d,r⟩
  have hKb:K.In (hidT O2.heap H):=λb o e=>base_of (KX b o e) (by
   cases q:H b with
   | none=>rfl
   | some u =>
    rcases split (b:=b) (by rw[q];simp) with ⟨_,e',n0⟩ | ⟨qq,z⟩
    .subst e';rw[hK0 n0] at e;cases e
    .obtain ⟨_,_,e2⟩:=tat z;have e3:=KX b o e;rw[e2] at e3;cases e3;have h2:=all_eq_true.mp hnt (b,W.tabObj #[]) (W.mem_of_lookupK e);exact absurd (show false=true from h2) qY)
  have hM:Mod K mg (hidT O2.heap H):=⟨hKb,nsK hns,⟨mb,nsK hb,hbb⟩,let ⟨mc,h1,h2⟩:=hlim;⟨mc,nsK h1,h2⟩,⟨let ⟨mc,h1,h2⟩:=hsr.statics;⟨mc,nsK h1,h2⟩,let ⟨mc,h1,h2⟩:=hsr.mods;⟨mc,nsK h1,h2⟩,let ⟨mc,h1,h2⟩:=hsr.imp;⟨mc,nsK h1,h2⟩,let ⟨mc,bm,ob,h1,h2,h3,h4,h5⟩:=hsr.main;⟨mc,bm,ob,nsK h1,h2,base_of h3 (noM h3 h4),h4,h5⟩⟩,let ⟨bm,ob,b1,b2,b3,b4,b5⟩:=hbm;⟨bm,ob,b1,b2,base_of b3 (noM b3 b4),b4,b5⟩,λx hx c P e=>by
   have e2:=htl x hx;rw[e] at e2;obtain⟨o,vs',file,tf,flags,tg,inF,text,tt,g1,g2,g3,g4,g5,g6,g7,g8,g9,g10⟩:=(htab (x,c,P) (PySem.mem_of_lookup e2.symm)).1;refine⟨o,vs',file,tf,flags,tg,inF,text,tt,base_of g1 ?_,g2,g3,g4,g5,g6,g7,g8,g9,g10⟩;cases q:H c with
   | none=>rfl
   | some u =>
    rcases split (b:=c) (by rw[q];simp) with ⟨_,e',_⟩ | ⟨qq,z⟩
    .subst e';rw[ha] at g1;cases g1;exact absurd (show Value.type "list"=Value.type "code" from g2) (by decide)
    .obtain ⟨_,_,e2⟩:=tat z;rw[e2] at g1;cases g1;exact absurd (show Value.none=Value.type "code" from g2) (by decide)⟩
  have e0:Env0 P w K mg (hidT O2.heap H) callerA [] O2 H:=⟨rfl,hM,λb o e=>zPZ e,Nat.le_of_eq (zKf _ _),trivial,λb hb=>absurd (show b∈([]:List Addr) from hb) (by simp),hok,.of_eq hg,htr,hT⟩;refine codeAny_mono ((F _ hKb (nsK hns)).run callerA [] O2 H ⟨[.ref a],[]⟩ [.ref a] [.ref a] _ _ hr e0 (hbind O2 (.ref a)) (.cons rfl .nil) (hsp H hL hS)) λr s' h=>?_
  cases r with
  | error e=>exact(hCX H e s' h).elim
  | ok fl =>
   cases fl with
   | next=>exact False.elim h
   | brk=>exact False.elim h
   | cont=>exact False.elim h
   | ret u =>
    obtain⟨v,H',os,bare,un,hok',r',q⟩:=h;have q':v=.bl true:=q;subst q';obtain rfl:u=Value.bool true:=r';have key:∀ b o,O2.heap.get? b=some o->asItWas O2.heap s'.heap b o/\∃ o',s'.heap.get? b=some o':=λb o e=>by
     cases z:(tblT tl).lookup b with
     | some qq =>
      obtain⟨c,C,e2⟩:=tat z;rw[e] at e2;cases e2;obtain⟨ps,e3,_⟩:=hok' b _ (un.tbls b _ (Hat z));exact⟨.inr (.inl ⟨(C.tab e).isCodeTable,rfl,#[],ps,rfl,by rw[e3];simp⟩),_,e3⟩
     | none =>
      have k:s'.heap.get? b=some o:=by
       cases q:H b with
       | none=>exact un.keep b o e q (by intro z;exact absurd (show b∈([]:List Addr) from z) (by simp)) (by simp)
       | some u =>
        rcases hO0 b with y | ⟨ob,xs,y⟩
        .rw [Hout z,y] at q;cases q
        .have y1:=H0t y;have z2:=un.frzs b ob _ y1;obtain⟨e1,_⟩:=hok b _ y1;obtain⟨e2,_⟩:=hok' b _ z2;rw[e] at e1;cases e1;exact e2
      exact⟨.inl k,o,k⟩
    exact⟨rfl,⟨λb o e=>(key b o e).1,λb o e=>(key b o e).2⟩,os,bare⟩
 cases hk:K.lookup a with
 | some o =>
  have e:=KX a o hk;rw[ha] at e;cases e;refine core (λ_=>none) (λ_=>.inl rfl) (.inr ⟨_,vs.toArray,_,hk,rfl,rfl,rfl,by rw[xy,lenV];exact hl,by simpa using rv⟩) (λb u z=>by have z':(none:Option HO)=some u:=z;cases z') (λb z=>absurd rfl z) λz=>absurd rfl z
 | none =>
  refine core (λb=>if b=a then some (.frz { cls:=.type "list",data:=.seq vs.toArray } (.lst (ns.map V.int))) else none) (λb=>?_) (.inl (.inr ⟨{ cls:=.type "list",data:=.seq vs.toArray },if_pos rfl⟩)) (λb u z=>?_) (λb z=>?_) λ_=>hk
  .by_cases hb:b=a
   .exact .inr ⟨_,_,if_pos hb⟩
   .exact .inl (if_neg hb)
  .by_cases hb:b=a
   .have z':=(if_pos hb).symm.trans z;cases z';subst hb;exact⟨ha,by rw[qy];exact hl,vs,_,rv,ha⟩
   .have z':=(if_neg hb).symm.trans z;cases z'
  .by_cases hb:b=a
   .exact hb
   .exact absurd (if_neg hb) z
end L2
namespace L2
open PySem Spec PyProof.Rows
theorem zOm {l:W.OpenLaw}{K:Params->W.Frag}{CX:World->CXT}{sp:World->Sp}
  (hn:l.most=some n) (hn2:n<=sizeLine) (hdf:d.params.defaults=[]) (hq:importsNone q=true) (ht:∀ w,(model l.prog w).prog.given.tree=none) (hr:Room k callerA) (tl:List (Str×Addr×Addr)) (hrec:∀ (w:World) (h:Heap),YP w h->∀ t∈tl,W.CodeHd h t.2.1 t.2.2/\h.get? t.2.2=some (W.tabObj #[])) (htl:∀ w:World,∀ x∈zBx,tabQ (K w.params) x=tl.lookup x) (htk:∀ t∈tl,t.1∈zBx/\tl.lookup t.1=some t.2) (hnd:(tl.map λt=>t.2.2).Nodup) (hnt:∀ w:World,W.noTabs (K w.params)=true)
  (hY:∀ (w:World) (h:Heap),YP w h->(K w.params).In h)
  (F:∀ (w:World) (mg:Str->Option Value) (fa:Addr) (h:Heap),(K w.params).In h->h.Ns mainGlobals mg->mg d.name=some (.ref fa) ->
   ∃ fd:FuncData,(∀ (s:Shared) (u:Value),BindsTo s fd ⟨[u],[]⟩ [(x,u)]) /\
    ∀ base:Heap,(K w.params).In base->base.Ns mainGlobals mg->FnOk l.prog w (K w.params) mg base (CX w) k fa fd [x] (sp w))
  (hsp:∀ (w:World) (H:Hp) (a:Addr) (ns:List Int),(ns.length<=n/\∀ x∈ns,Builtin.Int.intBits x<=2^20)->(∀ xs,H a≠some (.lst xs))->SqL (K w.params) H a (ns.map V.int)->sp w [.ref a] H (λv _=>v=.bl true) λ_ _ _=>False)
  (hCX:∀ (w:World) (H:Hp) (s:Shared) (e:Value) (s':Shared),CX w [] H s (λ_ _ _=>False) e s'->False) :
  W.WalkO q loose XP YP l.row.toRowW d [] (λf vs=>PySem.call f vs):=by
 refine Att.zHT hn hdf λw s0 O2 mg mb fa o pm cd doc a vs ns G Y ho hd hcd hmg hobj hints hlen hg=>?_
 have KX:=hY w _ Y;obtain⟨fd,hb,hF⟩:=F w mg fa _ KX G.T.g hmg;exact zMo KX G.T.g G.T.b G.T.builtins G.T.nolimit (G.T.seer hq) (ht w) hg hobj hints (le_trans hlen.1 hn2) hr hF hb (tl:=tl) G.T.bmain (hrec w _ Y) (htl w) hnd (hnt w) (λH hL hS=>hsp w H a ns hlen hL hS) λH e s'=>hCX w H O2 e s'
def zAR (s:Stmt)(j:Nat):Stmt:=match s with
 | .ClassDef _ _ _ body _ _ _ _ _ _ _=>body.getD j (.Pass ⟨0,0,0,0⟩)
 | _=>.Pass ⟨0,0,0,0⟩
def zAs (s:Stmt):Arguments:=match s with
 | .FunctionDef _ a _ _ _ _ _ _ _ _=>a
 | _=>{ posonlyargs:=[],args:=[],vararg:=none,kwonlyargs:=[],kw_defaults:=[],kwarg:=none,defaults:=[] }
def zAK (s:Stmt):List Stmt:=match s with
 | .FunctionDef _ _ b _ _ _ _ _ _ _=>b
 | _=>[]
def zAA (s:Stmt):Scope:=match s with
 | .FunctionDef _ _ _ _ _ _ sc _ _ _=>sc
 | _=>{ kind:=.function,names:=[],isGenerator:=false,isCoroutine:=false }
abbrev CX0:CXT:=λ_ _ _ _ _ _=>False
abbrev E0:XK:=λ_ _ _=>False
theorem zJs :zGj CX0 X E0:=λ_ _ _ _ _ _ _ h=>h.elim
structure Fun (K:W.Frag)(x qual:Str)(st:Stmt)(f:Addr)(fd:FuncData):Prop where
 ex:∃ (oc:Value) (od:Option Addr) (kV doc pm:Value) (an:Option Addr) (cdv ct:Value) (osl:Array (Option Value)),
  fd=W.fnOf x qual (zAs st) (zAK st) (zAA st) .none kV doc pm an cdv ct/\K.lookup f=some ⟨oc,od,.func fd,osl⟩/\W.codeIn K cdv qual=true
 kp:W.keepIn K (.ref f)=true
section
variable {P:Program}{w:World}{K:W.Frag}{mg:Str->Option Value}{base:Heap}
theorem Fun.ok {st:Stmt}(F:Fun K x qual st f fd)(S:zAi N ps (zAA st))(len:∀ vs H Q E,sp vs H Q E->vs.length=ps.length)
  (hbody:∀ (cdv:Value) (A:Around) (outer:List Env) (s:Shared) (H:Hp) (vs:List V) (Q:VK) (E:XK),Room k (A.deeper (envOfC qual (zAA st) s.heap.objs.size f cdv))->sp vs H Q E ->
   ∃ t,PSs (cxOf CX0 P w K mg base N qual (zAA st) f cdv A outer s H E).nox (zAK st) t/\t { nx:=λ_ H'=>Q .non H',rt:=Q } (zB0 N vs) H):FnOk P w K mg base CX0 (k+1) f fd ps sp:=by
 obtain⟨oc,od,kV,doc,pm,an,cdv,ct,osl,rfl,lk,hcd⟩:=F.ex;refine zTD lk hcd S len λA outer s H vs Q E hr hsp=>?_
 obtain⟨t,h,q⟩:=hbody cdv A outer s H vs Q E hr hsp;exact⟨t,h.nox,q⟩
theorem Fun.binds {st:Stmt}(F:Fun K x qual st f fd)
  (h:∀ (kV doc pm:Value) (an:Option Addr) (cdv ct:Value) (us:List Value),us.length=ps.length->bindArgs (W.fnOf x qual (zAs st) (zAK st) (zAA st) .none kV doc pm an cdv ct) ⟨us,[]⟩=pure (ps.zip us)):zBU K fd ps []:=by
 obtain⟨oc,od,kV,doc,pm,an,cdv,ct,osl,rfl,lk,hcd⟩:=F.ex;exact .all (h kV doc pm an cdv ct)
theorem zH0 {st:Stmt}{kV:Value}(l:K.lookup f=some ⟨oc,od,.func (W.fnOf x qual (zAs st) (zAK st) (zAA st) .none kV doc pm an cdv ct),osl⟩)
  (c:W.codeIn K cdv qual=true) (k:W.keepIn K (.ref f)=true):Fun K x qual st f (W.fnOf x qual (zAs st) (zAK st) (zAA st) .none kV doc pm an cdv ct):=⟨⟨oc,od,kV,doc,pm,an,cdv,ct,osl,rfl,l,c⟩,k⟩
end
theorem zJS (h:n<=1000):n < sizeLine:=Nat.lt_of_le_of_lt h (by decide)
theorem iteF {B:Prop}(h:B):if false=true then A else B:=by
 rw[if_neg qY];exact h
theorem iteT {B:Prop}(h:A):if true=true then A else B:=by
 rw[if_pos rfl];exact h
def Same (H H':Hp):Prop:=∀ b o,H b=some o->H' b=some o
theorem Same.refl (H:Hp):Same H H:=λ_ _ h=>h
theorem Same.trans (a:Same H H1)(b:Same H1 H2):Same H H2:=λc o h=>b c o (a c o h)
theorem Same.free (e:Same H H')(h:H' l=Option.none):H l=Option.none:=by
 cases q:H l with
 | none=>rfl
 | some o =>
  rw[e l o q] at h;cases h
theorem Same.seq {K:W.Frag}(e:Same H H')(h:SqL K H a xs):SqL K H' a xs:=by
 rcases h with (h | ⟨o,h⟩) | h
 .exact .inl (.inl (e _ _ h))
 .exact .inl (.inr ⟨o,e _ _ h⟩)
 .exact .inr h
end L2
end
section
namespace DL
open PySem Spec PyProof.Rows L2
abbrev St:=L2.St
abbrev anyU:HO:=.ext λ_=>True
structure LamI where
 qual:Str
 params:Arguments
 body:Expr
 scope:Scope
def frN (L:LamI):List Str:=((L.scope.names.filter λp=>p.2==.free).map (·.1)).reverse
def zBa (H:Hp):List (Str×Addr)->List V->Prop:=Paired λp v=>∃ o u,H p.2=some (.frz o anyU)/\o.data=.cell (some u)/\RelV v u
def zDu (H:Hp)(L:LamI)(f:Addr)(vs:List V):Prop:=∃ cl pm c ctv oc u1,H f=some (.frz (W.kla_obj "<lambda>" L.qual L.params L.body L.scope cl pm c ctv) anyU)/\H c=some (.frz oc u1)/\zL3 oc L.qual/\cl.map (·.1)=frN L/\(cl.map (·.2)).Nodup/\zBa H cl vs
noncomputable def zEG:List Str:=["shape","ink","strength","layer","layers"]
def zNX (ns:List Str):Bool:=(ns.any λn=>n==("strength":Str)||n==("layer":Str))&&ns.all λn=>zEG.contains n
def zFl (fs:List (Str×V)):Bool:=zNX (fs.map (·.1))
abbrev zCr (H H':Hp):Prop:=∀ b o,H b=some o->(∀ C dx fs,o=.ins C dx fs->zFl fs=true)->H' b=some o
theorem zBa.monoF (e:zCr H H')(h:zBa H cl vs):zBa H' cl vs:=Paired.mapP h λ_ _ zy127=>by obtain⟨o,u,h1,h2⟩:=zy127;exact⟨o,u,e _ _ h1 (λ_ _ _ z=>nomatch z),h2⟩
theorem zDu.monoF (e:zCr H H')(h:zDu H L f vs):zDu H' L f vs:=by
 obtain⟨cl,pm,c,ctv,oc,u1,h1,h2,h3,h4,h5,h6⟩:=h;exact⟨cl,pm,c,ctv,oc,u1,e _ _ h1 (λ_ _ _ z=>nomatch z),e _ _ h2 (λ_ _ _ z=>nomatch z),h3,h4,h5,h6.monoF e⟩
theorem zDu.mono (e:Same H H')(h:zDu H L f vs):zDu H' L f vs:=h.monoF λb o q _=>e b o q
inductive D where
 | non | bl (b:Bool) | int (i:Int) | str (x:Str) | tup (l:List D) | lst (l:List D) | exc (c:Str) | dct (ks:List (Int×Int)) | lam (j:Nat) (L:LamI) (l:List D) | obj (c:Str) (ns:List Str) (l:List D) | fn (n:Nat) (x:Str)
noncomputable instance:Inhabited D:=⟨.non⟩
def zCS (K:W.Frag)(c:Str)(C:Addr):Prop:=W.nsIn K mainGlobals c=some (some (.ref C))
def zL0 (K:W.Frag)(H:Hp)(c:Str)(ns:List Str)(a:Addr)(vs:List V):Prop:=∃ C dx gs,H a=some (.ins C dx gs)/\zFl gs=true/\zCS K c C/\(ns.map λn=>gs.lookup n)=vs.map some
theorem zL0.monoF {K:W.Frag}(e:zCr H H')(h:zL0 K H c ns a vs):zL0 K H' c ns a vs :=
 let ⟨C,dx,gs,h1,h2,h3⟩:=h;⟨C,dx,gs,e _ _ h1 (λ_ _ _ z=>by cases z;exact h2),h2,h3⟩
noncomputable def pk (p:Int×Int):List Key:=[Sum.inl p.1,Sum.inl p.2]
mutual
noncomputable def Den (K:W.Frag)(H:Hp):D->V->Prop
 | .non,v=>v=.non
 | .bl b,v=>v=.bl b
 | .int i,v=>v=.int i
 | .str x,v=>v=.str x
 | .tup ds,v=>∃ a vs,v=.ref a/\SqT K H a vs/\DenL K H ds vs
 | .lst ds,v=>∃ a vs,v=.ref a/\SqL K H a vs/\DenL K H ds vs
 | .exc c,v=>∃ a o u C,v=.ref a/\H a=some (.frz o u)/\o.cls=.ref C/\(∃ vs,o.data=.fields vs)/\zCS K c C
 | .dct ks,v=>∃ a kvs,v=.ref a/\H a=some (.dT kvs)/\kvs.map (·.1)=ks.map pk
 | .lam _ L ds,v=>∃ a vs,v=.ref a/\zDu H L a vs/\DenL K H ds vs
 | .obj c ns ds,v=>∃ a vs,v=.ref a/\zL0 K H c ns a vs/\DenL K H ds vs
 | .fn _ x,v=>∃ a,v=.ref a/\zCS K x a
noncomputable def DenL (K:W.Frag)(H:Hp):List D->List V->Prop
 | [],vs=>vs=[]
 | d::ds,vs=>∃ v ws,vs=v::ws/\Den K H d v/\DenL K H ds ws
end
theorem Same.tupS {K:W.Frag}(e:Same H H')(h:SqT K H a xs):SqT K H' a xs:=by
 rcases h with (h | ⟨o,h⟩) | h
 .exact .inl (.inl (e _ _ h))
 .exact .inl (.inr ⟨o,e _ _ h⟩)
 .exact .inr h
theorem zCr.tupS {K:W.Frag}(e:zCr H H')(h:SqT K H a xs):SqT K H' a xs:=by
 rcases h with (h | ⟨o,h⟩) | h
 .exact .inl (.inl (e _ _ h (λ_ _ _ z=>nomatch z)))
 .exact .inl (.inr ⟨o,e _ _ h (λ_ _ _ z=>nomatch z)⟩)
 .exact .inr h
theorem zCr.seq {K:W.Frag}(e:zCr H H')(h:SqL K H a xs):SqL K H' a xs:=by
 rcases h with (h | ⟨o,h⟩) | h
 .exact .inl (.inl (e _ _ h (λ_ _ _ z=>nomatch z)))
 .exact .inl (.inr ⟨o,e _ _ h (λ_ _ _ z=>nomatch z)⟩)
 .exact .inr h
section
variable {K:W.Frag}{H H':Hp}
mutual
theorem Den.monoF (e:zCr H H'):∀ {d:D} {v:V},Den K H d v->Den K H' d v
 | .non,_,h=>by rw[Den] at h ⊢;exact h
 | .bl _,_,h=>by rw[Den] at h ⊢;exact h
 | .int _,_,h=>by rw[Den] at h ⊢;exact h
 | .str _,_,h=>by rw[Den] at h ⊢;exact h
 | .tup ds,_,h=>by
  rw[Den] at h ⊢;obtain⟨a,vs,h1,h2,h3⟩:=h;exact⟨a,vs,h1,zCr.tupS e h2,DenL.monoF e h3⟩
 | .lst ds,_,h=>by
  rw[Den] at h ⊢;obtain⟨a,vs,h1,h2,h3⟩:=h;exact⟨a,vs,h1,zCr.seq e h2,DenL.monoF e h3⟩
 | .exc c,_,h=>by
  rw[Den] at h ⊢;obtain⟨a,o,u,C,h1,h2,h3⟩:=h;exact⟨a,o,u,C,h1,e _ _ h2 (λ_ _ _ z=>nomatch z),h3⟩
 | .dct ks,_,h=>by
  rw[Den] at h ⊢;obtain⟨a,kvs,h1,h2,h3⟩:=h;exact⟨a,kvs,h1,e _ _ h2 (λ_ _ _ z=>nomatch z),h3⟩
 | .lam _ L ds,_,h=>by
  rw[Den] at h ⊢;obtain⟨a,vs,h1,h2,h3⟩:=h;exact⟨a,vs,h1,h2.monoF e,DenL.monoF e h3⟩
 | .obj c ns ds,_,h=>by
  rw[Den] at h ⊢;obtain⟨a,vs,h1,h2,h3⟩:=h;exact⟨a,vs,h1,h2.monoF e,DenL.monoF e h3⟩
 | .fn _ x,_,h=>by rw[Den] at h ⊢;exact h
theorem DenL.monoF (e:zCr H H'):∀ {ds:List D} {vs:List V},DenL K H ds vs->DenL K H' ds vs
 | [],_,h=>by rw[DenL] at h ⊢;exact h
 | d::ds,_,h=>by
  rw[DenL] at h ⊢;obtain⟨v,ws,h1,h2,h3⟩:=h;exact⟨v,ws,h1,Den.monoF e h2,DenL.monoF e h3⟩
end
theorem Den.mono (e:Same H H')(h:Den K H d v):Den K H' d v:=h.monoF λb o q _=>e b o q
theorem DenL.mono (e:Same H H')(h:DenL K H ds vs):DenL K H' ds vs:=h.monoF λb o q _=>e b o q
theorem DenL.nil:DenL K H [] []:=by rw[DenL]
theorem DenL.cons (h:Den K H d v)(t:DenL K H ds vs):DenL K H (d::ds) (v::vs):=by
 rw[DenL];exact⟨v,vs,rfl,h,t⟩
theorem DenL.length:∀ {ds:List D} {vs:List V},DenL K H ds vs->ds.length=vs.length
 | [],_,h=>by rw[DenL] at h;rw[h];rfl
 | _::ds,_,h=>by
  rw[DenL] at h;obtain⟨v,ws,h1,h2,h3⟩:=h;rw[h1,xY,xY,DenL.length h3]
theorem DenL.get:∀ {ds:List D} {vs:List V} {i:Nat} {d:D},DenL K H ds vs->ds[i]?=some d->∃ v,vs[i]?=some v/\Den K H d v
 | [],_,_,_,_,e=>by simp at e
 | x::ds,_,i,d,h,e=>by
  rw[DenL] at h;obtain⟨v,ws,h1,h2,h3⟩:=h;subst h1;cases i with
  | zero=>simp at e;subst e;exact⟨v,by simp,h2⟩
  | succ i =>
   obtain⟨u,q1,q2⟩:=DenL.get (i:=i) (d:=d) h3 (by simpa using e);exact⟨u,by simpa using q1,q2⟩
theorem DenL.of_get:∀ {ds:List D} {vs:List V},ds.length=vs.length->(∀ (i:Nat) d v,ds[i]?=some d->vs[i]?=some v->Den K H d v)->DenL K H ds vs
 | [],[],_,_=>.nil
 | [],_::_,e,_=>by simp at e
 | _::_,[],e,_=>by simp at e
 | d::ds,v::vs,e,h=>.cons (h 0 d v (by simp) (by simp)) (DenL.of_get (by simpa using e) λi d' v' q1 q2=>h (i+1) d' v' (by simpa using q1) (by simpa using q2))
theorem DenL.append:∀ {ds es:List D} {vs ws:List V},DenL K H ds vs->DenL K H es ws->DenL K H (ds++es) (vs++ws)
 | [],_,_,_,h,t=>by rw[DenL] at h;subst h;exact t
 | _::ds,_,_,_,h,t=>by
  rw[DenL] at h;obtain⟨v,ws,h1,h2,h3⟩:=h;subst h1;exact .cons h2 (DenL.append h3 t)
theorem DenL.take:∀ {ds:List D} {vs:List V} (n:Nat),DenL K H ds vs->DenL K H (ds.take n) (vs.take n)
 | _,_,0,_=>by rw[take_zero,take_zero];exact .nil
 | [],_,n+1,h=>by rw[DenL] at h;subst h;exact .nil
 | _::ds,_,n+1,h=>by
  rw[DenL] at h;obtain⟨v,ws,h1,h2,h3⟩:=h;subst h1;rw[List.take_succ_cons,List.take_succ_cons];exact .cons h2 (DenL.take n h3)
theorem DenL.drop:∀ {ds:List D} {vs:List V} (n:Nat),DenL K H ds vs->DenL K H (ds.drop n) (vs.drop n)
 | _,_,0,h=>h
 | [],_,n+1,h=>by rw[DenL] at h;subst h;exact .nil
 | _::ds,_,n+1,h=>by
  rw[DenL] at h;obtain⟨v,ws,h1,h2,h3⟩:=h;subst h1;rw[List.drop_succ_cons,List.drop_succ_cons];exact DenL.drop n h3
theorem DenL.set (hd:Den K H d v):∀ {ds:List D} {vs:List V} (n:Nat),DenL K H ds vs->DenL K H (ds.set n d) (vs.set n v)
 | [],_,n,h=>by rw[DenL] at h;subst h;exact .nil
 | _::ds,_,n,h=>by
  rw[DenL] at h;obtain⟨u,ws,h1,h2,h3⟩:=h;subst h1;cases n with
  | zero=>exact .cons hd h3
  | succ n=>exact .cons h2 (DenL.set hd n h3)
theorem DenL.ints:∀ ns:List Int,DenL K H (ns.map D.int) (ns.map V.int)
 | []=>.nil
 | n::ns=>.cons (by rw[Den]) (DenL.ints ns)
end
def hide (H:Hp)(S:List Addr):Hp:=λb=>if b∈S then none else H b
section
variable {H H':Hp}{S:List Addr}{a b:Addr}{o:HO}
theorem zCG (h:b∈S):hide H S b=none:=if_pos h
theorem zAT (h:b∉S):hide H S b=H b:=if_neg h
theorem zA7 (h:hide H S b=some o):b∉S/\H b=some o:=by
 unfold hide at h;by_cases q:b∈S
 .rw [if_pos q] at h;cases h
 .rw [if_neg q] at h;exact⟨q,h⟩
theorem zAq:Same (hide H S) H:=λ_ _ h=>(zA7 h).2
theorem zAU (e:Same H H'):Same (hide H S) (hide H' S):=λb o h=>by
 obtain⟨h1,h2⟩:=zA7 h;rw[zAT h1];exact e _ _ h2
theorem zB4 (h:∀ b∈S,b∈T):Same (hide H T) (hide H S):=λb o q=>by
 obtain⟨h1,h2⟩:=zA7 q;rw[zAT λz=>h1 (h b z)];exact h2
theorem zDz (e:Same H H')(n:H a=none):Same (hide H S) (hide H' (a::S)):=λb o q=>by
 obtain⟨h1,h2⟩:=zA7 q;have ne:b≠a:=zAw h2 n;rw[zAT λz=>(mem_cons.mp z).elim ne h1];exact e _ _ h2
theorem zBe:hide H []=H:=by
 funext b;exact zAT (by simp)
theorem zFe (h:a∈S):hide (upd H a o) S=hide H S:=by
 funext b;by_cases q:b∈S
 .rw [zCG q,zCG q]
 .rw [zAT q,zAT q,zAP λz=>q (by rw[z];exact h)]
theorem zAp (h:H p=none)(o:HO):Same H (upd H p o):=λb u q=>by rw[zAP (zAw q h)];exact q
end
inductive Kd where
 | cl | fr | dt
 deriving DecidableEq
abbrev R:=D×Kd
abbrev Dst:=List (Option (D×Bool))
def RV (K:W.Frag)(H H':Hp)(S:List Addr):R->V->Prop
 | (d,.cl),v=>Den K (hide H' S) d v
 | (d,.fr),v=>∃ a vs ds,v=.ref a/\d=.lst ds/\a∉S/\H a=none/\H' a=some (.lst vs)/\DenL K (hide H' (a::S)) ds vs
 | (d,.dt),v=>∃ a vs ds,v=.ref a/\d=.lst ds/\SqL K H' a vs/\DenL K (hide H' S) ds vs
def Rdv (K:W.Frag)(H:Hp)(S:List Addr)(d:D)(v:V):Prop :=
 Den K (hide H S) d v\/∃ a vs ds,v=.ref a/\d=.lst ds/\SqL K H a vs/\DenL K (hide H S) ds vs
section
variable {K:W.Frag}{H H1 H':Hp}{S:List Addr}{d:D}{v:V}{r:R}
theorem RV.clean (h:RV K H H' S (d,.fr) v):Den K (hide H' S) d v:=by
 obtain⟨a,vs,ds,rfl,rfl,na,_,ha,t⟩:=h;rw[Den];exact⟨a,vs,rfl,SqL.of (by rw[zAT na];exact ha),t.mono (zB4 λb z=>qJ _ z)⟩
theorem RV.den (h:RV K H H' S (d,k) v)(hk:k≠.dt):Den K (hide H' S) d v:=by
 cases k with
 | cl=>exact h
 | fr=>exact h.clean
 | dt=>exact absurd rfl hk
theorem RV.rd (h:RV K H H' S r v):Rdv K H' S r.1 v:=by
 obtain⟨d,k⟩:=r;cases k with
 | cl=>exact .inl h
 | fr=>exact .inl h.clean
 | dt=>exact .inr h
theorem RV.from (e:Same H H1)(h:RV K H1 H' S r v):RV K H H' S r v:=by
 obtain⟨d,k⟩:=r;cases k with
 | cl=>exact h
 | fr =>
  obtain⟨a,vs,ds,e1,e2,e3,e4,e5⟩:=h;exact⟨a,vs,ds,e1,e2,e3,e.free e4,e5⟩
 | dt=>exact h
theorem Rdv.mono (e:Same H H')(h:Rdv K H S d v):Rdv K H' S d v:=by
 rcases h with h | ⟨a,vs,ds,h1,h2,h3,h4⟩
 .exact .inl (h.mono (zAU e))
 .exact .inr ⟨a,vs,ds,h1,h2,e.seq h3,h4.mono (zAU e)⟩
theorem Rdv.int (h:Rdv K H S (.int i) v):v=.int i:=by
 rcases h with h | ⟨a,vs,ds,h1,h2,_⟩
 .rw [Den] at h;exact h
 .cases h2
theorem Rdv.bl (h:Rdv K H S (.bl b) v):v=.bl b:=by
 rcases h with h | ⟨a,vs,ds,h1,h2,_⟩
 .rw [Den] at h;exact h
 .cases h2
theorem Rdv.str (h:Rdv K H S (.str x) v):v=.str x:=by
 rcases h with h | ⟨a,vs,ds,h1,h2,_⟩
 .rw [Den] at h;exact h
 .cases h2
theorem Rdv.lst (h:Rdv K H S (.lst ds) v):∃ a vs,v=.ref a/\SqL K H a vs/\DenL K (hide H S) ds vs:=by
 rcases h with h | ⟨a,vs,ds',h1,h2,h3,h4⟩
 .rw [Den] at h;obtain⟨a,vs,h1,h2,h3⟩:=h;exact⟨a,vs,h1,zAq.seq h2,h3⟩
 .cases h2;exact⟨a,vs,h1,h3,h4⟩
theorem Rdv.tup (h:Rdv K H S (.tup ds) v):∃ a vs,v=.ref a/\SqT K H a vs/\DenL K (hide H S) ds vs:=by
 rcases h with h | ⟨a,vs,ds',h1,h2,h3,h4⟩
 .rw [Den] at h;obtain⟨a,vs,h1,h2,h3⟩:=h;exact⟨a,vs,h1,Same.tupS zAq h2,h3⟩
 .cases h2
theorem Rdv.dct (h:Rdv K H S (.dct ks) v):∃ a kvs,v=.ref a/\H a=some (.dT kvs)/\kvs.map (·.1)=ks.map pk:=by
 rcases h with h | ⟨a,vs,ds',h1,h2,h3,h4⟩
 .rw [Den] at h;obtain⟨a,kvs,h1,h2,h3⟩:=h;exact⟨a,kvs,h1,zAq _ _ h2,h3⟩
 .cases h2
theorem RV.int (i:Int):RV K H H' S (.int i,.cl) (.int i):=by show Den _ _ _ _;rw[Den]
theorem RV.bl (b:Bool):RV K H H' S (.bl b,.cl) (.bl b):=by show Den _ _ _ _;rw[Den]
end
def MuB:HO->Prop
 | .lst _=>True
 | .dT _=>True
 | _=>False
def OwnO (K:W.Frag)(H:Hp):D->HO->Prop
 | .lst ds,o=>∃ vs,o=.lst vs/\DenL K H ds vs
 | .dct ks,o=>∃ kvs,o=.dT kvs/\kvs.map (·.1)=ks.map pk
 | _,_=>False
theorem OwnO.mono {K:W.Frag}(e:Same H H')(h:OwnO K H d o):OwnO K H' d o:=by
 cases d with
 | lst ds=>obtain⟨vs,h1,h2⟩:=h;exact⟨vs,h1,h2.mono e⟩
 | dct ks=>exact h
 | non=>exact h
 | bl _=>exact h
 | int _=>exact h
 | str _=>exact h
 | tup _=>exact h
 | exc _=>exact h
 | lam _ _ _=>exact h
 | obj _ _ _=>exact h
 | fn _ _=>exact h
theorem OwnO.mu {K:W.Frag}(h:OwnO K H d o):MuB o:=by
 cases d with
 | lst ds=>obtain⟨vs,rfl,_⟩:=h;exact True.intro
 | dct ks=>obtain⟨kvs,rfl,_⟩:=h;exact True.intro
 | non=>cases h
 | bl _=>cases h
 | int _=>cases h
 | str _=>cases h
 | tup _=>cases h
 | exc _=>cases h
 | lam _ _ _=>cases h
 | obj _ _ _=>cases h
 | fn _ _=>cases h
theorem OwnO.den {K:W.Frag}(h:OwnO K H d o)(e:H a=some o):Den K H d (.ref a):=by
 cases d with
 | lst ds=>obtain⟨vs,rfl,h2⟩:=h;rw[Den];exact⟨a,vs,rfl,SqL.of e,h2⟩
 | dct ks=>obtain⟨kvs,rfl,h2⟩:=h;rw[Den];exact⟨a,kvs,rfl,e,h2⟩
 | non=>cases h
 | bl _=>cases h
 | int _=>cases h
 | str _=>cases h
 | tup _=>cases h
 | exc _=>cases h
 | lam _ _ _=>cases h
 | obj _ _ _=>cases h
 | fn _ _=>cases h
def SV (K:W.Frag)(H:Hp)(S:List Addr)(d:D)(o:Bool)(v:V):Prop :=
 if o=true then ∃ a u,v=.ref a/\a∈S/\H a=some u/\OwnO K (hide H S) d u else Den K (hide H S) d v
structure DS (K:W.Frag)(H:Hp)(S:List Addr)(B:St)(G:Dst):Prop where
 len:B.length=G.length
 sok:∀ a∈S,∃ xs:HO,H a=some xs/\MuB xs
 get:∀ (i:Nat) d o,G[i]?=some (some (d,o))->∃ v,B[i]?=some (some v)/\SV K H S d o v
 inj:∀ (i j:Nat) d e a,G[i]?=some (some (d,true))->G[j]?=some (some (e,true))->B[i]?=some (some (.ref a))->B[j]?=some (some (.ref a))->i=j
section
variable {K:W.Frag}{H H1 H':Hp}{S:List Addr}{B:St}{G:Dst}{d:D}{v:V}{i:Nat}
theorem SV.own (h:SV K H S d o v)(ho:o=true):∃ a u,v=.ref a/\a∈S/\H a=some u/\OwnO K (hide H S) d u:=by
 unfold SV at h;rw[if_pos ho] at h;exact h
theorem SV.ownL (h:SV K H S (.lst ds) o v)(ho:o=true):∃ a vs es,v=.ref a/\D.lst ds=.lst es/\a∈S/\H a=some (.lst vs)/\DenL K (hide H S) es vs:=by
 obtain⟨a,u,h1,h2,h3,vs,rfl,h5⟩:=h.own ho;exact⟨a,vs,ds,h1,rfl,h2,h3,h5⟩
theorem SV.den (h:SV K H S d o v)(ho:o=false):Den K (hide H S) d v:=by
 unfold SV at h;rw[if_neg (by rw[ho];decide)] at h;exact h
theorem SV.of_den (h:Den K (hide H S) d v):SV K H S d false v:=by
 unfold SV;rw[if_neg (by decide)];exact h
theorem SV.of_own (h1:a∈S)(h2:H a=some u)(h3:OwnO K (hide H S) d u):SV K H S d true (.ref a):=by
 unfold SV;rw[if_pos rfl];exact⟨a,u,rfl,h1,h2,h3⟩
theorem SV.mono (e:Same H H')(h:SV K H S d o v):SV K H' S d o v:=by
 cases o with
 | true =>
  obtain⟨a,u,rfl,h1,h2,h3⟩:=h.own rfl;exact .of_own h1 (e _ _ h2) (h3.mono (zAU e))
 | false=>exact .of_den ((h.den rfl).mono (zAU e))
theorem DS.mono (h:DS K H S B G)(e:Same H H'):DS K H' S B G :=
 ⟨h.len,λa z=>let ⟨xs,q,mu⟩:=h.sok a z;⟨xs,e _ _ q,mu⟩,λi d o z=>let ⟨v,q1,q2⟩:=h.get i d o z;⟨v,q1,q2.mono e⟩,h.inj⟩
theorem zBH {U:Type}{l:List U}{i:Nat}{x:U}(h:i < l.length):(l.set i x)[i]?=some x:=by simp[h]
theorem zA4 {U:Type}{l:List U}{i j:Nat}{x:U}(h:i≠j):(l.set i x)[j]?=l[j]?:=by rw[getElem?_set_ne h]
theorem zAZ {U:Type}{l:List U}{i j:Nat}{x y:U}(h:(l.set i x)[j]?=some y):(i=j/\y=x/\i < l.length)\/(i≠j/\l[j]?=some y):=by
 by_cases e:i=j
 .subst e;by_cases q:i < l.length
  .rw [zBH q] at h;exact .inl ⟨rfl,(xj h).symm,q⟩
  .rw [List.set_eq_of_length_le (by omega)] at h;exact absurd (zzg h).1 q
 .rw [zA4 e] at h;exact .inr ⟨e,h⟩
theorem DS.set (h:DS K H S B G)(hd:Den K (hide H S) d v):DS K H S (B.set i (some v)) (G.set i (some (d,false))):=by
 refine⟨by rw[length_set,length_set];exact h.len,h.sok,λj e o q=>?_,λj k e f a q1 q2 q3 q4=>?_⟩
 .rcases zAZ q with ⟨rfl,z,hl⟩ | ⟨ne,z⟩
  .cases z;exact⟨v,zBH (by rw[h.len];exact hl),.of_den hd⟩
  .obtain ⟨u,q1,q2⟩:=h.get j e o z;exact⟨u,by rw[zA4 ne];exact q1,q2⟩
 .rcases zAZ q1 with ⟨_,z,_⟩ | ⟨ne1,z1⟩
  .cases z
  .rcases zAZ q2 with ⟨_,z,_⟩ | ⟨ne2,z2⟩
   .cases z
   .rw [zA4 ne1] at q3;rw[zA4 ne2] at q4;exact h.inj j k e f a z1 z2 q3 q4
theorem DS.setG (h:DS K H S B G)(e:Same H H')(n:H a=none)(ha:H' a=some u)(t:OwnO K (hide H' (a::S)) d u) :
  DS K H' (a::S) (B.set i (some (.ref a))) (G.set i (some (d,true))):=by
 refine⟨by rw[length_set,length_set];exact h.len,λb z=>?_,λj e' o q=>?_,λj k e' f b q1 q2 q3 q4=>?_⟩
 .rcases mem_cons.mp z with rfl | z
  .exact ⟨_,ha,t.mu⟩
  .obtain ⟨xs,q,mu⟩:=h.sok b z;exact⟨xs,e _ _ q,mu⟩
 .rcases zAZ q with ⟨rfl,z,hl⟩ | ⟨ne,z⟩
  .cases z;exact⟨.ref a,zBH (by rw[h.len];exact hl),.of_own q8 ha t⟩
  .obtain ⟨u,q1,q2⟩:=h.get j e' o z;refine⟨u,by rw[zA4 ne];exact q1,?_⟩;cases o with
   | true =>
    obtain⟨b,w,rfl,w1,w2,w3⟩:=q2.own rfl;exact .of_own (qJ _ w1) (e _ _ w2) (w3.mono (zDz e n))
   | false=>exact .of_den ((q2.den rfl).mono (zDz e n))
 .have old:∀ {j:Nat} {x:D},i≠j->G[j]?=some (some (x,true))->B[j]?=some (some (.ref a))->False:=λ{j x} ne z q=>by
   obtain⟨u,q1,q2⟩:=h.get j x true z;obtain⟨b,w,rfl,w1,w2,_⟩:=q2.own rfl;rw[q] at q1;cases q1;rw[n] at w2;cases w2
  rcases zAZ q1 with ⟨e1,z1,l1⟩ | ⟨ne1,z1⟩
  .rcases zAZ q2 with ⟨e2,z2,l2⟩ | ⟨ne2,z2⟩
   .exact e1.symm.trans e2
   .rw [<- e1,zBH (by rw[h.len];exact l1)] at q3;cases q3;rw[zA4 ne2] at q4;exact(old ne2 z2 q4).elim
  .rcases zAZ q2 with ⟨e2,z2,l2⟩ | ⟨ne2,z2⟩
   .rw [<- e2,zBH (by rw[h.len];exact l2)] at q4;cases q4;rw[zA4 ne1] at q3;exact(old ne1 z1 q3).elim
   .rw [zA4 ne1] at q3;rw[zA4 ne2] at q4;exact h.inj j k e' f b z1 z2 q3 q4
theorem DS.setF (h:DS K H S B G)(e:Same H H')(n:H a=none)(ha:H' a=some (.lst vs))(t:DenL K (hide H' (a::S)) ds vs) :
  DS K H' (a::S) (B.set i (some (.ref a))) (G.set i (some (.lst ds,true))):=h.setG e n ha ⟨vs,rfl,t⟩
theorem DS.changeG (h:DS K H S B G)(hi:G[i]?=some (some (d,true)))(hv:B[i]?=some (some (.ref a)))(t:OwnO K (hide H S) e0 u) :
  DS K (upd H a u) S B (G.set i (some (e0,true))):=by
 obtain⟨w,q1,q2⟩:=h.get i _ true hi;obtain⟨b,ws,e1,aS,w2,_⟩:=q2.own rfl;subst e1;rw[hv] at q1;cases q1;have hh:hide (upd H a u) S=hide H S:=zFe aS;refine⟨by rw[length_set];exact h.len,λb z=>?_,λj e' o q=>?_,λj k e' f b q1 q2 q3 q4=>?_⟩
 .by_cases q:b=a
  .subst q;exact⟨_,zAh,t.mu⟩
  .rw [zAP q];exact h.sok b z
 .rcases zAZ q with ⟨rfl,z,hl⟩ | ⟨ne,z⟩
  .cases z;exact⟨.ref a,hv,.of_own aS zAh (by rw[hh];exact t)⟩
  .obtain ⟨w,q1,q2⟩:=h.get j e' o z;refine⟨w,q1,?_⟩;cases o with
   | true =>
    obtain⟨b,ws',rfl,w1,w2',w3⟩:=q2.own rfl;have nb:b≠a:=λz2=>by subst z2;exact ne (h.inj i j _ _ b hi z hv q1)
    exact .of_own w1 (by rw[zAP nb];exact w2') (by rw[hh];exact w3)
   | false=>exact .of_den (by rw[hh];exact q2.den rfl)
 .have back:∀ {j:Nat} {x:D},(G.set i (some (e0,true)))[j]?=some (some (x,true))->∃ y,G[j]?=some (some (y,true)):=λ{j x} z=>by
   rcases zAZ z with ⟨e1,_,_⟩ | ⟨_,z⟩
   .rw [<- e1];exact⟨_,hi⟩
   .exact ⟨_,z⟩
  obtain⟨y1,z1⟩:=back q1;obtain⟨y2,z2⟩:=back q2;exact h.inj j k y1 y2 b z1 z2 q3 q4
theorem DS.change (h:DS K H S B G)(hi:G[i]?=some (some (.lst ds,true)))(hv:B[i]?=some (some (.ref a)))(t:DenL K (hide H S) es vs) :
  DS K (upd H a (.lst vs)) S B (G.set i (some (.lst es,true))):=h.changeG hi hv ⟨vs,rfl,t⟩
theorem DS.freeze (h:DS K H S B G)(hi:G[i]?=some (some (d,true))):∃ S',(∀ b∈S',b∈S)/\DS K H S' B (G.set i (some (d,false))):=by
 obtain⟨u,q1,q2⟩:=h.get i _ true hi;obtain⟨a,w,rfl,aS,w2,w3⟩:=q2.own rfl;have sub:∀ b∈S.filter (λb=>decide (b≠a)),b∈S:=λb z=>(mem_filter.mp z).1
 have na:a∉S.filter (λb=>decide (b≠a)):=λz=>by simpa using (mem_filter.mp z).2
 refine⟨S.filter (λb=>decide (b≠a)),sub,?_⟩;have hs:Same (hide H S) (hide H (S.filter λb=>decide (b≠a))):=zB4 sub;refine⟨by rw[length_set];exact h.len,λb z=>h.sok b (sub b z),λj e' o q=>?_,λj k e' f b z1 z2 q3 q4=>?_⟩
 .rcases zAZ q with ⟨rfl,z,hl⟩ | ⟨ne,z⟩
  .cases z;exact⟨.ref a,q1,.of_den ((w3.mono hs).den (by rw[zAT na];exact w2))⟩
  .obtain ⟨u,p1,p2⟩:=h.get j e' o z;refine⟨u,p1,?_⟩;cases o with
   | true =>
    obtain⟨b,ws',rfl,w1,w2',w3'⟩:=p2.own rfl;have nb:b≠a:=λz2=>by subst z2;exact ne (h.inj i j _ _ b hi z q1 p1)
    exact .of_own (mem_filter.mpr ⟨w1,by simpa using nb⟩) w2' (w3'.mono hs)
   | false=>exact .of_den ((p2.den rfl).mono hs)
 .rcases zAZ z1 with ⟨_,z,_⟩ | ⟨_,z1⟩
  .cases z
  .rcases zAZ z2 with ⟨_,z,_⟩ | ⟨_,z2⟩
   .cases z
   .exact h.inj j k e' f b z1 z2 q3 q4
end
def gT (K:W.Frag)(f:Dst->Option R):TE:=λB H Q=>∃ S G r,DS K H S B G/\f G=some r/\∀ v H',Same H H'->RV K H H' S r v->Q v H'
def gB (K:W.Frag)(f:Dst->Option Bool):TT:=λB H Q=>∃ S G b,DS K H S B G/\f G=some b/\∀ H',Same H H'->Q b H'
def gA (K:W.Frag)(f:Dst->Option (List D)):TA:=λB H Q=>∃ S G ds,DS K H S B G/\f G=some ds/\∀ vs H',Same H H'->DenL K (hide H' S) ds vs->Q vs H'
def GE (X:Cx)(e:Expr)(f:Dst->Option R):Prop:=PE X e (gT X.K f)
def GT (X:Cx)(e:Expr)(f:Dst->Option Bool):Prop:=PT X e (gB X.K f)
def GA (X:Cx)(es:List Expr)(f:Dst->Option (List D)):Prop:=PA X es (gA X.K f)
theorem _root_.L2.PE.imp (h:PE X e t)(i:∀ B H Q,t' B H Q->t B H Q):PE X e t':=λpins s B H Q I q=>h pins s B H Q I (i B H Q q)
theorem _root_.L2.PT.imp (h:PT X e t)(i:∀ B H Q,t' B H Q->t B H Q):PT X e t':=λpins s B H Q I q=>h pins s B H Q I (i B H Q q)
theorem _root_.L2.PA.imp (h:PA X e t)(i:∀ B H Q,t' B H Q->t B H Q):PA X e t':=λpos pins s B H Q I q=>h pos pins s B H Q I (i B H Q q)
theorem bind_some {U M:Type}{o:Option U}{f:U->Option M}{b:M}(h:(o.bind f)=some b):∃ a,o=some a/\f a=some b:=by
 cases o with
 | none=>cases h
 | some a=>exact⟨a,rfl,h⟩
section
variable {X:Cx}
def OpD (K:W.Frag)(r:R2)(o:D->D->Option R):Prop :=
 ∀ (S:List Addr) (H:Hp) (x y:D) (z:R) (vx vy:V) (Q:VK),(∀ a∈S,∃ xs:HO,H a=some xs/\MuB xs)->o x y=some z->Rdv K H S x vx->Rdv K H S y vy->(∀ v H',Same H H'->RV K H H' S z v->Q v H')->r vx vy H Q
noncomputable def two (f g:Dst->Option R)(o:D->D->Option R):Dst->Option R:=λG=>(f G).bind λx=>(g G).bind λy=>o x.1 y.1
theorem zHn {r:R2}{o:D->D->Option R}{f g:Dst->Option R}(h:OpD X.K r o){B:St}{H:Hp}{Q:VK}(q:gT X.K (two f g o) B H Q):tOp r (gT X.K f) (gT X.K g) B H Q:=by
 obtain⟨S,G,z,ds,e,c⟩:=q;obtain⟨x,ex,e⟩:=bind_some e;obtain⟨y,ey,e⟩:=bind_some e;refine⟨S,G,x,ds,ex,λvx H1 s1 r1=>⟨S,G,y,ds.mono s1,ey,λvy H2 s2 r2=>?_⟩⟩;exact h S H2 x.1 y.1 z vx vy Q (ds.mono (s1.trans s2)).sok e (r1.rd.mono s2) r2.rd λv H' s3 r3=>c v H' (s1.trans (s2.trans s3)) (r3.from (s1.trans s2))
theorem zIs (ho:OpR X (binaryOp op) r)(h:OpD X.K r o)(ha:GE X a f)(hb:GE X b g):GE X (.BinOp a op b pos) (two f g o) :=
 (zT1 ho ha hb).imp λ_ _ _ q=>zHn h q
theorem zS4 (ho:OpR X (compareOp op) r)(h:OpD X.K r o)(hm:behindInMarks op b=false)(ha:GE X a f)(hb:GE X b g):GE X (.Compare a [op] [b] pos) (two f g o) :=
 (zPG ho ha hb hm).imp λ_ _ _ q=>zHn h q
noncomputable def asB (f:Dst->Option R):Dst->Option Bool:=λG=>match f G with
 | some (.bl b,_)=>some b
 | _=>none
theorem zCN (h:asB f G=some b):∃ k,f G=some (.bl b,k):=by
 unfold asB at h;split at h
 .rename_i k e;cases h;exact⟨_,e⟩
 .cases h
theorem zG9 {f:Dst->Option R}{B:St}{H:Hp}{Q:Bool->Hp->Prop}(q:gB X.K (asB f) B H Q):gT X.K f B H λx H'=>∃ k,x=.bl k/\Q k H':=by
 obtain⟨S,G,b,ds,e,c⟩:=q;obtain⟨k,e⟩:=zCN e;refine⟨S,G,_,ds,e,λv H' s1 r1=>⟨b,r1.rd.bl,c H' s1⟩⟩
theorem zSf (ho:OpR X (compareOp op) r)(h:OpD X.K r o)(hm:behindInMarks op b=false)(ha:GE X a f)(hb:GE X b g):GT X (.Compare a [op] [b] pos) (asB (two f g o)) :=
 (zO7 ho ha hb hm).imp λ_ _ _ q=>zHn h (zG9 q)
theorem zSc (h:GE X e f)(he:∀ whole,isTrue e X.env whole=(do let v<-whole;standAt e.pos;holding [v] (truthy v))):GT X e (asB f) :=
 (zN5 h he).imp λ_ _ _ q=>zG9 q
noncomputable def lstB:D->Bool
 | .lst _=>true
 | _=>false
noncomputable def varD (i:Nat):Dst->Option R:=λG=>match G[i]? with
 | some (some (d,o))=>if o=true then (if lstB d=true then some (d,.dt) else none) else some (d,.cl)
 | _=>none
theorem zSs (hN:X.N[i]?=some x)(hv:Vis X.env.scope x)(hd:(x==("__debug__":Str))=false)(hcd:(x==("__classdict__":Str))=false) :
  GE X (.Name x pos) (varD i):=by
 refine(zDg hN hv hd hcd).imp λB H Q q=>?_
 obtain⟨S,G,z,ds,e,c⟩:=q;unfold varD at e;split at e
 .rename_i d o q;obtain⟨v,q1,q2⟩:=ds.get i d o q;cases o with
  | false =>
   cases e;exact⟨v,q1,c v H (Same.refl _) (q2.den rfl)⟩
  | true =>
   rw[if_pos rfl] at e;cases d with
   | lst xs =>
    cases e;refine⟨v,q1,c v H (Same.refl _) ?_⟩;obtain⟨a,vs,es,rfl,e2,_,w2,w3⟩:=q2.ownL rfl;exact⟨a,vs,es,rfl,e2,SqL.of w2,w3⟩
   | _=>cases e
 .cases e
theorem zD0 (h:PE X e (tC v))(hd:∀ K H,Den K H d v):GE X e (λ_=>some (d,.cl)) :=
 h.imp λB H Q zz34=>by
  obtain⟨S,G,z,ds,e,c⟩:=zz34;cases e;exact c v H (Same.refl _) (hd _ _)
theorem ge_int {j pos}:GE X (.Constant (.int i) j pos) (λ_=>some (.int i,.cl)):=zD0 zRk λ_ _=>by rw[Den]
theorem zUX {j pos}:GE X (.Constant (.bool b) j pos) (λ_=>some (.bl b,.cl)):=zD0 zT2 λ_ _=>by rw[Den]
theorem zSx {j pos}:GE X (.Constant .none j pos) (λ_=>some (.non,.cl)):=zD0 zRi λ_ _=>by rw[Den]
theorem zSv {j pos}:GE X (.Constant (.str x) j pos) (λ_=>some (.str x,.cl)):=zD0 zRf λ_ _=>by rw[Den]
theorem zQJ (hg:Gl X x)(hm:X.mg x=some u)(r:RelV v u)(hd:Den X.K (λ_=>none) d v)(hdb:(x==("__debug__":Str))=false):GE X (.Name x pos) (λ_=>some (d,.cl)) :=
 (zJp hg hm r hdb).imp λB H Q zz35=>by
  obtain⟨S,G,z,ds,e,c⟩:=zz35;cases e;exact c v H (Same.refl _) (hd.mono λb o q=>by cases q)
theorem zG0 {C:Int->Int->Prop}{g:Int->Int->Int}{o:D->D->Option R}(h:∀ x y z,o x y=some z->∃ i j,x=.int i/\y=.int j/\C i j/\z=(.int (g i j),.cl)):OpD X.K (rI C λi j=>.int (g i j)) o:=by
 intro S H x y z vx vy Q _ e rx ry c;obtain⟨i,j,rfl,rfl,hc,rfl⟩:=h x y z e;exact⟨i,j,rx.int,ry.int,hc,c _ H (Same.refl _) (.int _)⟩
theorem zMY {g:Int->Int->Int}{o:D->D->Option R}(h:∀ x y z,o x y=some z->∃ i j,x=.int i/\y=.int j/\z=(.int (g i j),.cl)):OpD X.K (rI0 λi j=>.int (g i j)) o:=by
 intro S H x y z vx vy Q _ e rx ry c;obtain⟨i,j,rfl,rfl,rfl⟩:=h x y z e;exact⟨i,j,rx.int,ry.int,c _ H (Same.refl _) (.int _)⟩
theorem zBP {g:Int->Int->Bool}{o:D->D->Option R}(h:∀ x y z,o x y=some z->∃ i j,x=.int i/\y=.int j/\z=(.bl (g i j),.cl)):OpD X.K (rI0 λi j=>.bl (g i j)) o:=by
 intro S H x y z vx vy Q _ e rx ry c;obtain⟨i,j,rfl,rfl,rfl⟩:=h x y z e;exact⟨i,j,rx.int,ry.int,c _ H (Same.refl _) (.bl _)⟩
theorem zPQ:OpR X (binaryOp .Mult) (rI IntMulOk λi j=>.int (i*j)):=opI λ_ _ _ _ _ _ _ hc q=>mul_int q hc
def zI8 (_ j:Int):Prop:=j≠0
theorem zKT {pins:List (Addr×Obj)}{s:Shared}{B:St}{H:Hp}(I:Inv X pins B H s):PylongRoom (model X.prog X.w) X.A s:=by
 obtain⟨h1,h2,e,l,h3,h4,h5,h6,h7⟩:=I.ok.pyl;exact PylongRoom.of I.nolimit h1 (SeerAt.of (I.mod.seer.keeps I.bk) h2 (by rw[I.ok.frames,h3]) h4 h5 h6 h7)
theorem zMZ:OpR X (binaryOp .FloorDiv) (rI zI8 λi j=>.int (i.fdiv j)):=by
 intro pins s B H x y v u Q I rx ry h;obtain⟨i,j,rfl,rfl,hc,q⟩:=h;obtain⟨t,rfl⟩:=rx;obtain⟨t',rfl⟩:=ry;exact floordiv_int hc ⟨.int (i.fdiv j),H,I.tok _,⟨_,rfl⟩,q⟩ (.inr (zKT I))
theorem zGL (l:Addr)(items:Array Value)(n:Nat)(dd:Option Addr)(sl:Array (Option Value))(b:Addr)(items2:Array Value)(n2:Nat)(dd2:Option Addr)(sl2:Array (Option Value))(hc0:items.size+items2.size<=sizeLine) :
  Meets (Builtin.«list.__add__» ⟨[.ref l,.ref b],[]⟩) (λ_ R s=>s.heap.get? l=some { cls:=.type "list",dict:=dd,data:=.seq items n,slots:=sl }/\s.heap.get? b=some { cls:=.type "list",dict:=dd2,data:=.seq items2 n2,slots:=sl2 }/\R (.ok (.ret (Value.ref s.heap.objs.size))) { s with heap:=s.heap.push { cls:=Value.type "list",data:=Data.seq (items++items2) },toks:=s.toks }) :=
 .of_wp λprog w A R s h=>by obtain⟨hp,g,d,tk,os⟩:=s;obtain⟨hl,hb,h⟩:=h;have f1:=AutoSeq1.idx_int;have f2:=AutoSeq1.sub_tuple_tuple;have f3:=AutoSeq1.sub_list_list;have f4:=AutoSeq1.sub_tuple_list;have f5:=AutoSeq1.sub_list_tuple;wp_walk using AutoSeq1.wpAny_loadPart' hl,AutoSeq1.wpAny_loadPart' hb;exact⟨_,rfl,h⟩
end
mutual
noncomputable def toPy:D->PyData
 | .non=>.none
 | .bl b=>.bool b
 | .int i=>.int i
 | .str x=>.str x
 | .tup ds=>.tuple (toPyL ds)
 | .lst ds=>.list (toPyL ds)
 | .exc _=>.str ⟨#[1114112]⟩
 | .dct _=>.str ⟨#[1114112]⟩
 | .lam _ _ _=>.str ⟨#[1114112]⟩
 | .obj _ _ _=>.str ⟨#[1114112]⟩
 | .fn _ _=>.str ⟨#[1114112]⟩
noncomputable def toPyL:List D->List PyData
 | []=>[]
 | d::ds=>toPy d::toPyL ds
end
theorem Rdv.whole {K:W.Frag}(h:Rdv K H S d v):Den K H d v:=by
 rcases h with h | ⟨a,vs,ds,rfl,rfl,h1,h2⟩
 .exact h.mono zAq
 .rw [Den];exact⟨a,vs,rfl,h1,h2.mono zAq⟩
section
variable {X:Cx}{pins:List (Addr×Obj)}{B:St}{H:Hp}{s:Shared}
mutual
theorem zC8 (I:Inv X pins B H s):∀ {d:D} {v:V} {u:Value},Den X.K H d v->RelV v u->(toPy d).canLay0=true->∃ as,Reads s.heap u (toPy d) as
 | .non,_,_,h,r,_=>by rw[Den] at h;subst h;cases r;rw[toPy];exact⟨_,.none⟩
 | .bl b,_,_,h,r,_=>by rw[Den] at h;subst h;cases r;rw[toPy];exact⟨_,.bool b⟩
 | .int i,_,_,h,r,_=>by rw[Den] at h;subst h;obtain⟨t,rfl⟩:=r;rw[toPy];exact⟨_,.int i t⟩
 | .str x,_,_,h,r,_=>by rw[Den] at h;subst h;obtain⟨t,rfl⟩:=r;rw[toPy];exact⟨_,.str x t⟩
 | .tup ds,_,_,h,r,cl=>by
  rw[toPy,PyData.canLay0] at cl;rw[Den] at h;obtain⟨a,vs,rfl,h1,h2⟩:=h;cases r;obtain⟨its,rv,⟨o,e1,e2,n,e3⟩,_⟩:=I.tuple h1;obtain⟨as,q⟩:=readsL_of I h2 rv cl;rw[toPy];exact⟨_,.tuple e1 e2 e3 q⟩
 | .exc c,_,_,h,r,cl=>by rw[toPy,PyData.canLay0] at cl;exact absurd cl (by decide +kernel)
 | .dct c,_,_,h,r,cl=>by rw[toPy,PyData.canLay0] at cl;exact absurd cl (by decide +kernel)
 | .lam _ _ _,_,_,h,r,cl=>by rw[toPy,PyData.canLay0] at cl;exact absurd cl (by decide +kernel)
 | .obj _ _ _,_,_,h,r,cl=>by rw[toPy,PyData.canLay0] at cl;exact absurd cl (by decide +kernel)
 | .fn _ _,_,_,h,r,cl=>by rw[toPy,PyData.canLay0] at cl;exact absurd cl (by decide +kernel)
 | .lst ds,_,_,h,r,cl=>by
  rw[toPy,PyData.canLay0] at cl;rw[Den] at h;obtain⟨a,vs,rfl,h1,h2⟩:=h;cases r;obtain⟨its,rv,⟨o,n,e1,e2,_,e3⟩,_⟩:=I.list h1;obtain⟨as,q⟩:=readsL_of I h2 rv cl;rw[toPy];exact⟨_,.list e1 e2 e3 q⟩
theorem readsL_of (I:Inv X pins B H s):∀ {ds:List D} {vs:List V} {us:List Value},DenL X.K H ds vs->Vals vs us->PyData.canLayAll0 (toPyL ds)=true->∃ as,ReadsAll s.heap us (toPyL ds) as
 | [],_,_,h,r,_=>by rw[DenL] at h;subst h;cases r;rw[toPyL];exact⟨_,.nil⟩
 | d::ds,_,_,h,r,cl=>by
  rw[toPyL,PyData.canLayAll0,x9] at cl;rw[DenL] at h;obtain⟨v,ws,rfl,h1,h2⟩:=h;cases r with
  | cons r1 r2 =>
   obtain⟨a1,q1⟩:=zC8 I h1 r1 cl.1;obtain⟨a2,q2⟩:=readsL_of I h2 r2 cl.2;rw[toPyL];exact⟨_,.cons q1 q2⟩
end
end
def EqOk (x y:D):Prop:=(toPy x).canLay0=true/\(toPy y).canLay0=true/\(toPy x).depth<=64
noncomputable instance (x y:D):Decidable (EqOk x y):=by unfold EqOk;exact inferInstance
def eqb (x y:D):Bool:=PyData.eqv (toPy x) (toPy y)
def rEqD (K:W.Frag)(f:Bool->Bool):R2:=λvx vy H Q=>∃ x y,Den K H x vx/\Den K H y vy/\EqOk x y/\Q (.bl (f (eqb x y))) H
section
variable {X:Cx}
theorem zR1 (hu:X.A.units+64 < cLine):OpR X (compareOp .Eq) (rEqD X.K id):=by
 intro pins s B H x y v u Q I rx ry h;obtain⟨d,e,hd,he,⟨o1,o2,o3⟩,q⟩:=h;obtain⟨as,r1⟩:=zC8 I hd rx o1;obtain⟨bs,r2⟩:=zC8 I he ry o2;exact SeqAt.rcAt_reads r1 r2 o1 o2 (by omega) X.prog X.w _ _ ⟨.bl (eqb d e),H,I,rfl,q⟩
theorem zRu (hu:X.A.units+64 < cLine):OpR X (compareOp .NotEq) (rEqD X.K (λb=>!b)):=by
 intro pins s B H x y v u Q I rx ry h;obtain⟨d,e,hd,he,⟨o1,o2,o3⟩,q⟩:=h;obtain⟨as,r1⟩:=zC8 I hd rx o1;obtain⟨bs,r2⟩:=zC8 I he ry o2;exact SeqAt.rcNeAt_reads r1 r2 o1 o2 (by omega) X.prog X.w _ _ ⟨.bl (!eqb d e),H,I,rfl,q⟩
def eqD (f:Bool->Bool)(x y:D):Option R:=if EqOk x y then some (.bl (f (eqb x y)),.cl) else none
theorem zOC :OpD X.K (rEqD X.K f) (eqD f):=by
 intro S H x y z vx vy Q _ e rx ry c;unfold eqD at e;by_cases ok:EqOk x y
 .rw [if_pos ok] at e;cases e;exact⟨x,y,rx.whole,ry.whole,ok,c _ H (Same.refl _) (.bl _)⟩
 .rw [if_neg ok] at e;cases e
def nonB:D->Bool
 | .non=>true
 | _=>false
noncomputable def isN (f:Bool->Bool)(x y:D):Option R:=match y with
 | .non=>some (.bl (f (nonB x)),.cl)
 | _=>none
theorem zLa {K:W.Frag}(h:Den K H x v):decide (v=.non)=nonB x:=by
 cases x with
 | non=>rw[Den] at h;subst h;rfl
 | bl b=>rw[Den] at h;subst h;rfl
 | int i=>rw[Den] at h;subst h;rfl
 | str i=>rw[Den] at h;subst h;rfl
 | tup ds=>rw[Den] at h;obtain⟨a,vs,rfl,_⟩:=h;rfl
 | lst ds=>rw[Den] at h;obtain⟨a,vs,rfl,_⟩:=h;rfl
 | exc c=>rw[Den] at h;obtain⟨a,o,u,C,rfl,_⟩:=h;rfl
 | dct c=>rw[Den] at h;obtain⟨a,kvs,rfl,_⟩:=h;rfl
 | lam _ _ _=>rw[Den] at h;obtain⟨a,vs,rfl,_⟩:=h;rfl
 | obj _ _ _=>rw[Den] at h;obtain⟨a,vs,rfl,_⟩:=h;rfl
 | fn _ _=>rw[Den] at h;obtain⟨a,rfl,_⟩:=h;rfl
theorem zPL:OpD X.K (λx y H Q=>y=.non/\Q (.bl (decide (x=.non))) H) (isN id):=by
 intro S H x y z vx vy Q _ e rx ry c;cases y with
 | non =>
  have e':some (D.bl (nonB x),Kd.cl)=some z:=e;cases e';have q:=ry.whole;rw[Den] at q;exact⟨q,by rw[zLa rx.whole];exact c _ H (Same.refl _) (.bl _)⟩
 | _=>cases e
theorem zMX:OpD X.K (λx y H Q=>y=.non/\Q (.bl (!decide (x=.non))) H) (isN (λb=>!b)):=by
 intro S H x y z vx vy Q _ e rx ry c;cases y with
 | non =>
  have e':some (D.bl (!(nonB x)),Kd.cl)=some z:=e;cases e';have q:=ry.whole;rw[Den] at q;exact⟨q,by rw[zLa rx.whole];exact c _ H (Same.refl _) (.bl _)⟩
 | _=>cases e
theorem DenL.atI {K:W.Frag}(h:DenL K H ds vs)(e:atI ds i=some d):∃ v,L2.atI vs i=some v/\Den K H d v:=by
 unfold L2.atI at e ⊢;obtain⟨j,e1,e2⟩:=bind_some e;obtain⟨v,q1,q2⟩:=h.get e2;refine⟨v,?_,q2⟩;rw[<- h.length,e1];exact q1
noncomputable def ixD (x y:D):Option R:=match x,y with
 | .lst ds,.int i=>(atI ds i).map λd=>(d,.cl)
 | .tup ds,.int i=>(atI ds i).map λd=>(d,.cl)
 | _,_=>none
theorem zRq:OpD X.K (λx y H Q=>rIxL X.K x y H Q\/rIxT X.K x y H Q) ixD:=by
 intro S H x y z vx vy Q _ e rx ry c;unfold ixD at e;split at e
 .rename_i ds i;obtain⟨d,e1,rfl⟩:=yq.mp e;obtain⟨a,vs,rfl,h1,h2⟩:=rx.lst;obtain⟨v,q1,q2⟩:=h2.atI e1;exact .inl ⟨a,vs,i,v,rfl,ry.int,h1,q1,c v H (Same.refl _) q2⟩
 .rename_i ds i;obtain⟨d,e1,rfl⟩:=yq.mp e;obtain⟨a,vs,rfl,h1,h2⟩:=rx.tup;obtain⟨v,q1,q2⟩:=h2.atI e1;exact .inr ⟨a,vs,i,v,rfl,ry.int,h1,q1,c v H (Same.refl _) q2⟩
 .cases e
theorem zUU (ha:GE X a f)(hb:GE X b g)(hs:zFs b):GE X (.Subscript a b pos) (two f g ixD) :=
 (zRj (zKZ.or zOM) ha hb hs).imp λ_ _ _ q=>zHn zRq q
theorem zS9:GA X [] (λ_=>some []):=zBC.imp λB H Q zz36=>by
 obtain⟨S,G,z,ds,e,c⟩:=zz36;cases e;exact c [] H (Same.refl _) .nil
def zNb (f:Dst->Option R)(g:Dst->Option (List D)):Dst->Option (List D):=λG=>(f G).bind λx=>if x.2=.dt then none else (g G).bind λxs=>some (x.1::xs)
theorem zQT (ha:GE X e f)(hr:GA X es g)(hs:starEach (e::es) X.env=(false,eval e X.env)::starEach es X.env):GA X (e::es) (zNb f g):=by
 refine(zAY ha hr hs).imp λB H Q zz37=>?_
 obtain⟨S,G,z,ds,e,c⟩:=zz37;obtain⟨x,ex,e⟩:=bind_some e;by_cases hx:x.2=.dt
 .rw [if_pos hx] at e;cases e
 rw[if_neg hx] at e;obtain⟨xs,exs,e⟩:=bind_some e;cases e;refine⟨S,G,x,ds,ex,λv H1 s1 r1=>⟨S,G,xs,ds.mono s1,exs,λvs H2 s2 r2=>?_⟩⟩;exact c _ H2 (s1.trans s2) (.cons ((RV.den (d:=x.1) (k:=x.2) r1 hx).mono (zAU s2)) r2)
noncomputable def tupD (g:Dst->Option (List D)):Dst->Option R:=λG=>(g G).bind λxs=>if xs.length<=10000 then some (.tup xs,.cl) else none
noncomputable def lstD (g:Dst->Option (List D)):Dst->Option R:=λG=>(g G).bind λxs=>if xs.length<=10000 then some (.lst xs,.fr) else none
theorem zCs (h:n<=10000):n<=sizeLine:=le_trans h (by decide)
theorem notS {H:Hp}{S:List Addr}(h:∀ a∈S,∃ xs:HO,H a=some xs/\MuB xs)(n:H p=none):p∉S:=λz=>by
 obtain⟨xs,q,_⟩:=h p z;rw[n] at q;cases q
theorem RV.tupNew {K:W.Frag}(hS:∀ a∈S,∃ xs:HO,H1 a=some xs/\MuB xs)(n:H1 p=none)(t:DenL K (hide H1 S) ds vs):RV K H (upd H1 p (.tup vs)) S (.tup ds,.cl) (.ref p):=by
 show Den _ _ _ _;rw[Den];exact⟨p,vs,rfl,SqT.of (by rw[zAT (notS hS n)];exact zAh),t.mono (zAU (zAp n _))⟩
theorem RV.lstNew {K:W.Frag}(e:Same H H1)(hS:∀ a∈S,∃ xs:HO,H1 a=some xs/\MuB xs)(n:H1 p=none)(t:DenL K (hide H1 S) ds vs):RV K H (upd H1 p (.lst vs)) S (.lst ds,.fr) (.ref p) :=
 ⟨p,vs,ds,rfl,rfl,notS hS n,e.free n,zAh,t.mono (zDz (zAp n _) n)⟩
theorem zSt {x1}(h:GA X es g):GE X (.Tuple es x1 pos) (tupD g):=by
 refine(zRe h).imp λB H Q zz38=>?_
 obtain⟨S,G,z,ds,e,c⟩:=zz38;obtain⟨xs,exs,e⟩:=bind_some e;by_cases hx:xs.length<=10000
 .rw [if_pos hx] at e;cases e;refine⟨S,G,xs,ds,exs,λvs H1 s1 r1=>⟨by rw[<- r1.length];exact zCs hx,λp n=>?_⟩⟩;exact c _ _ (s1.trans (zAp n _)) (.tupNew (ds.mono s1).sok n r1)
 .rw [if_neg hx] at e;cases e
theorem zSz (h:GA X es g):GE X (.List es pos) (lstD g):=by
 refine(zOA h).imp λB H Q zz39=>?_
 obtain⟨S,G,z,ds,e,c⟩:=zz39;obtain⟨xs,exs,e⟩:=bind_some e;by_cases hx:xs.length<=10000
 .rw [if_pos hx] at e;cases e;refine⟨S,G,xs,ds,exs,λvs H1 s1 r1=>⟨by rw[<- r1.length];exact zCs hx,λp n=>?_⟩⟩;exact c _ _ (s1.trans (zAp n _)) (.lstNew s1 (ds.mono s1).sok n r1)
 .rw [if_neg hx] at e;cases e
end
section
variable {X:Cx}
noncomputable def notD (f:Dst->Option R):Dst->Option R:=λG=>(asB f G).bind λb=>some (.bl (!b),.cl)
theorem zHA (ds:DS X.K H S B G)(e:asB f G=some b)(c:∀ H',Same H H'->Q (.bl b) H'):gT X.K f B H Q:=by
 obtain⟨k,e⟩:=zCN e;exact⟨S,G,_,ds,e,λv H' s1 r1=>by rw[r1.rd.bl];exact c H' s1⟩
theorem zSw (h:GE X a f):GE X (.UnaryOp .Not a pos) (notD f):=by
 refine(zRh h).imp λB H Q zz40=>?_
 obtain⟨S,G,z,ds,e,c⟩:=zz40;obtain⟨b,eb,e⟩:=bind_some e;cases e;exact zHA ds eb λH' s1=>⟨b,rfl,c _ H' s1 (.bl _)⟩
theorem zQ3 (h:asB (notD f) G=some b):asB f G=some (!b):=by
 obtain⟨k,e⟩:=zCN h;obtain⟨c,ec,e⟩:=bind_some e;cases e;rw[ec,Bool.not_not]
theorem zSd (h:GT X a (asB f)):GT X (.UnaryOp .Not a pos) (asB (notD f)) :=
 (zN6 h).imp λB H Q zy128=>by obtain⟨S,G,b,ds,e,c⟩:=zy128;exact⟨S,G,!b,ds,zQ3 e,λH' s1=>by show Q (!!b) H';rw[Bool.not_not];exact c H' s1⟩
noncomputable def andD (f g:Dst->Option R):Dst->Option R:=λG=>(asB f G).bind λb=>if b=true then g G else some (.bl false,.cl)
noncomputable def orD (f g:Dst->Option R):Dst->Option R:=λG=>(asB f G).bind λb=>if b=true then some (.bl true,.cl) else g G
theorem zS7 (ha:GE X a f)(hb:GE X (.BoolOp .And (b::rest) pos) g):GE X (.BoolOp .And (a::b::rest) pos) (andD f g):=by
 refine(zRm ha hb).imp λB H Q zz41=>?_
 obtain⟨S,G,z,ds,e,c⟩:=zz41;obtain⟨b,eb,e⟩:=bind_some e;refine zHA ds eb λH1 s1=>⟨b,rfl,?_⟩
 cases b with
 | true =>
  rw[if_pos rfl] at e ⊢;exact⟨S,G,z,ds.mono s1,e,λv H' s2 r2=>c v H' (s1.trans s2) (r2.from s1)⟩
 | false =>
  rw[if_neg qY] at e ⊢;cases e;exact c _ H1 s1 (.bl _)
theorem zUT (ha:GE X a f)(hb:GE X (.BoolOp .Or (b::rest) pos) g):GE X (.BoolOp .Or (a::b::rest) pos) (orD f g):=by
 refine(zT0 ha hb).imp λB H Q zz42=>?_
 obtain⟨S,G,z,ds,e,c⟩:=zz42;obtain⟨b,eb,e⟩:=bind_some e;refine zHA ds eb λH1 s1=>⟨b,rfl,?_⟩
 cases b with
 | true =>
  rw[if_pos rfl] at e ⊢;cases e;exact c _ H1 s1 (.bl _)
 | false =>
  rw[if_neg qY] at e ⊢;exact⟨S,G,z,ds.mono s1,e,λv H' s2 r2=>c v H' (s1.trans s2) (r2.from s1)⟩
theorem zOS {op}(h:GE X a f):GE X (.BoolOp op [a] pos) f:=zRg h
def GW (X:Cx)(e:Expr)(f:Dst->Option Bool):Prop:=PW X e (gB X.K f)
theorem _root_.L2.PW.imp (h:PW X e t)(i:∀ B H Q,t' B H Q->t B H Q):PW X e t':=λwhole pins s B H Q I q=>h whole pins s B H Q I (i B H Q q)
theorem zIn (h:GT X a f):GW X (.BoolOp .And [a] pos) f:=zJk h
theorem zKi (h:GT X a f):GW X (.BoolOp .Or [a] pos) f:=zN2 h
theorem zQ4 (h:asB (andD f g) G=some b):(asB f G=some true/\asB g G=some b)\/(asB f G=some false/\b=false):=by
 obtain⟨k,e⟩:=zCN h;obtain⟨c,ec,e⟩:=bind_some e;cases c with
 | true =>
  rw[if_pos rfl] at e;exact .inl ⟨ec,by unfold asB;rw[e]⟩
 | false =>
  rw[if_neg qY] at e;cases e;exact .inr ⟨ec,rfl⟩
theorem zTh (h:asB (orD f g) G=some b):(asB f G=some false/\asB g G=some b)\/(asB f G=some true/\b=true):=by
 obtain⟨k,e⟩:=zCN h;obtain⟨c,ec,e⟩:=bind_some e;cases c with
 | true =>
  rw[if_pos rfl] at e;cases e;exact .inr ⟨ec,rfl⟩
 | false =>
  rw[if_neg qY] at e;exact .inl ⟨ec,by unfold asB;rw[e]⟩
theorem zSb (ha:GT X a (asB f))(hb:GW X (.BoolOp .And (b::rest) pos) (asB g)):GW X (.BoolOp .And (a::b::rest) pos) (asB (andD f g)):=by
 refine PW.imp (zN4 ha hb) λB H Q zz43=>?_
 obtain⟨S,G,b,ds,e,c⟩:=zz43;rcases zQ4 e with ⟨e1,e2⟩ | ⟨e1,rfl⟩
 .refine ⟨S,G,true,ds,e1,λH1 s1=>?_⟩;refine iteT ?_;exact⟨S,G,b,ds.mono s1,e2,λH' s2=>c H' (s1.trans s2)⟩
 .refine ⟨S,G,false,ds,e1,λH1 s1=>?_⟩;refine iteF ?_;exact c H1 s1
theorem zUN (ha:GT X a (asB f))(hb:GW X (.BoolOp .Or (b::rest) pos) (asB g)):GW X (.BoolOp .Or (a::b::rest) pos) (asB (orD f g)):=by
 refine PW.imp (zRZ ha hb) λB H Q zz44=>?_
 obtain⟨S,G,b,ds,e,c⟩:=zz44;rcases zTh e with ⟨e1,e2⟩ | ⟨e1,rfl⟩
 .refine ⟨S,G,false,ds,e1,λH1 s1=>?_⟩;refine iteF ?_;exact⟨S,G,b,ds.mono s1,e2,λH' s2=>c H' (s1.trans s2)⟩
 .refine ⟨S,G,true,ds,e1,λH1 s1=>?_⟩;refine iteT ?_;exact c H1 s1
def iteD (c f g:Dst->Option R):Dst->Option R:=λG=>(asB c G).bind λb=>if b=true then f G else g G
theorem zS0 (hc:GT X c (asB k))(ha:GE X a f)(hb:GE X b g):GE X (.IfExp c a b pos) (iteD k f g):=by
 refine(zMT hc ha hb).imp λB H Q zz45=>?_
 obtain⟨S,G,z,ds,e,c⟩:=zz45;obtain⟨b,eb,e⟩:=bind_some e;refine⟨S,G,b,ds,eb,λH1 s1=>?_⟩;cases b with
 | true =>
  rw[if_pos rfl] at e ⊢;exact⟨S,G,z,ds.mono s1,e,λv H' s2 r2=>c v H' (s1.trans s2) (r2.from s1)⟩
 | false =>
  rw[if_neg qY] at e ⊢;exact⟨S,G,z,ds.mono s1,e,λv H' s2 r2=>c v H' (s1.trans s2) (r2.from s1)⟩
theorem zSe (hc:GT X c (asB k))(ha:GT X a (asB f))(hb:GT X b (asB g)):GT X (.IfExp c a b pos) (asB (iteD k f g)):=by
 intro pins s B H Q I ⟨S,G,z,ds,e,cc⟩;obtain⟨kk,e⟩:=zCN e;obtain⟨b,eb,e⟩:=bind_some e;refine isTrue_IfExp (thn (hc pins s B H (λb' H1=>b'=b/\Same H H1) I ⟨S,G,b,ds,eb,λH1 s1=>⟨rfl,s1⟩⟩) λd s1 zz46=>?_);obtain⟨H1,I1,q1,w1⟩:=zz46;subst q1;cases d with
 | true =>
  rw[if_pos rfl] at e;exact ha pins s1 B H1 Q I1 ⟨S,G,z,ds.mono w1,by unfold asB;rw[e],λH' s2=>cc H' (w1.trans s2)⟩
 | false =>
  rw[if_neg qY] at e;exact hb pins s1 B H1 Q I1 ⟨S,G,z,ds.mono w1,by unfold asB;rw[e],λH' s2=>cc H' (w1.trans s2)⟩
noncomputable def negD (f:Dst->Option R):Dst->Option R:=λG=>match f G with
 | some (.int i,_)=>some (.int (-i),.cl)
 | _=>none
theorem zSy (h:GE X a f):GE X (.UnaryOp .USub a pos) (negD f):=by
 refine(zTz zRD h).imp λB H Q zz47=>?_
 obtain⟨S,G,z,ds,e,c⟩:=zz47;unfold negD at e;split at e
 .rename_i i k ei;cases e;exact⟨S,G,_,ds,ei,λv H' s1 r1=>⟨i,r1.rd.int,c _ H' s1 (.int _)⟩⟩
 .cases e
noncomputable def cutD (ds:List D)(lo hi:Option Int):List D:=(ds.drop (HT.sIx ds.length 0 lo)).take (HT.sIx ds.length ds.length hi - HT.sIx ds.length 0 lo)
theorem DenL.cut {K:W.Frag}(h:DenL K H ds vs)(lo hi:Option Int):DenL K H (cutD ds lo hi) (cutV vs lo hi):=by
 unfold cutD cutV;rw[<- h.length];exact(h.drop _).take _
def gO (K:W.Frag)(f:Dst->Option (Option Int)):TO:=λB H Q=>∃ S G o,DS K H S B G/\f G=some o/\∀ H',Same H H'->Q o H'
def GO (X:Cx)(e:Option Expr)(f:Dst->Option (Option Int)):Prop:=PO X e (gO X.K f)
theorem _root_.L2.PO.imp (h:PO X e t)(i:∀ B H Q,t' B H Q->t B H Q):PO X e t':=λpins s B H Q I q=>h pins s B H Q I (i B H Q q)
theorem zQD:GO X none (λ_=>some none):=PO.imp zPB λB H Q zy129=>by obtain⟨S,G,o,ds,e,c⟩:=zy129;cases e;exact c H (Same.refl _)
def zJv (f:Dst->Option R):Dst->Option (Option Int):=λG=>match f G with
 | some (.int i,_)=>some (some i)
 | _=>none
theorem zQC (h:GE X e f):GO X (some e) (zJv f):=PO.imp (zPA h) λB H Q zz48=>by
 obtain⟨S,G,o,ds,e,c⟩:=zz48;unfold zJv at e;split at e
 .rename_i i k ei;cases e;exact⟨S,G,_,ds,ei,λv H' s1 r1=>⟨i,r1.rd.int,c H' s1⟩⟩
 .cases e
noncomputable def slD (f:Dst->Option R)(l h:Dst->Option (Option Int)):Dst->Option R:=λG=>(f G).bind λx=>(l G).bind λlo=>(h G).bind λhi=>match x.1 with
 | .lst ds=>some (.lst (cutD ds lo hi),.fr)
 | .tup ds=>if HT.sIx ds.length 0 lo=0/\HT.sIx ds.length ds.length hi=ds.length then none else some (.tup (cutD ds lo hi),.cl)
 | _=>none
theorem zUS {lo:Option Expr}(ha:GE X a f)(hl:GO X lo l)(hh:GO X hi h):GE X (.Subscript a (.Slice lo hi none p2) pos) (slD f l h):=by
 refine(zMS (zOv.or zRO) ha hl hh).imp λB H Q zz49=>?_
 obtain⟨S,G,z,ds,e,c⟩:=zz49;obtain⟨x,ex,e⟩:=bind_some e;obtain⟨lo',el,e⟩:=bind_some e;obtain⟨hi',eh,e⟩:=bind_some e;split at e
 .rename_i es ex2;cases e;refine⟨S,G,x,ds,ex,λvx H1 s1 r1=>⟨S,G,lo',ds.mono s1,el,λH2 s2=>⟨S,G,hi',ds.mono (s1.trans s2),eh,λH3 s3=>?_⟩⟩⟩;have r3:=r1.rd.mono (s2.trans s3);rw[ex2] at r3;obtain⟨a,vs,rfl,h1,h2⟩:=r3.lst;have s13:=s1.trans (s2.trans s3);exact .inl ⟨a,vs,rfl,h1,λp n=>c _ _ (s13.trans (zAp n _)) (.lstNew s13 (ds.mono s13).sok n (h2.cut lo' hi'))⟩
 .rename_i es ex2;split at e
  .cases e
  .rename_i nw;cases e;refine⟨S,G,x,ds,ex,λvx H1 s1 r1=>⟨S,G,lo',ds.mono s1,el,λH2 s2=>⟨S,G,hi',ds.mono (s1.trans s2),eh,λH3 s3=>?_⟩⟩⟩;have r3:=r1.rd.mono (s2.trans s3);rw[ex2] at r3;obtain⟨a,vs,rfl,h1,h2⟩:=r3.tup;have s13:=s1.trans (s2.trans s3);exact .inr ⟨a,vs,rfl,h1,by rw[<- h2.length];exact nw,λp n=>c _ _ (s13.trans (zAp n _)) (.tupNew (ds.mono s13).sok n (h2.cut lo' hi'))⟩
 .cases e
def OpD1 (K:W.Frag)(r:List V->Hp->VK->Prop)(o:D->Option R):Prop :=
 ∀ (S:List Addr) (H:Hp) (x:D) (z:R) (vx:V) (Q:VK),(∀ a∈S,∃ xs:HO,H a=some xs/\MuB xs)->o x=some z->Rdv K H S x vx->(∀ v H',Same H H'->RV K H H' S z v->Q v H')->r [vx] H Q
def one (f:Dst->Option R)(o:D->Option R):Dst->Option R:=λG=>(f G).bind λx=>o x.1
theorem zOD {r:List V->Hp->VK->Prop}{o:D->Option R}{f:Dst->Option R}(h:OpD1 X.K r o){B:St}{H:Hp}{Q:VK}(q:gT X.K (one f o) B H Q):tCB r (zOt (gT X.K f) tNil) B H Q:=by
 obtain⟨S,G,z,ds,e,c⟩:=q;obtain⟨x,ex,e⟩:=bind_some e;exact⟨S,G,x,ds,ex,λvx H1 s1 r1=>h S H1 x.1 z vx Q (ds.mono s1).sok e r1.rd λv H' s2 r2=>c v H' (s1.trans s2) (r2.from s1)⟩
theorem zS6 {id:String}(hc:zDv X (.builtin id) r)(h:OpD1 X.K r o)(hg:Gl X x)(hm:X.mg x=none)(hv:bootBuiltins x=some (.builtin id))(ha:GE X e f)
  (he:starEach [e] X.env=[(false,eval e X.env)]) (hn:x ≠ "__name__") (hdb:(x==("__debug__":Str))=false):GE X (.Call (.Name x p) [e] [] pos) (one f o) :=
 (zDx hc hg hm hv (zAY ha zBC he) hn hdb he rfl).imp λ_ _ _ q=>zOD h q
theorem zSu (hc:zDv X (.type T) r)(h:OpD1 X.K r o)(hg:Gl X x)(hm:X.mg x=none)(hv:bootBuiltins x=some (.type T))(ha:GE X e f)
  (he:starEach [e] X.env=[(false,eval e X.env)]) (hn:x ≠ "__name__") (hdb:(x==("__debug__":Str))=false):GE X (.Call (.Name x p) [e] [] pos) (one f o) :=
 (zJq hc hg hm hv (zAY ha zBC he) hn hdb he rfl).imp λ_ _ _ q=>zOD h q
noncomputable def lenD:D->Option R
 | .lst ds=>some (.int ds.length,.cl)
 | .tup ds=>some (.int ds.length,.cl)
 | _=>none
theorem zPK:OpD1 X.K (λxs H Q=>∃ p ys,xs=[.ref p]/\(SqL X.K H p ys\/SqT X.K H p ys)/\Q (.int ys.length) H) lenD:=by
 intro S H x z vx Q _ e rx c;unfold lenD at e;split at e
 .cases e;obtain⟨a,vs,rfl,h1,h2⟩:=rx.lst;exact⟨a,vs,rfl,.inl h1,by rw[<- h2.length];exact c _ H (Same.refl _) (.int _)⟩
 .cases e;obtain⟨a,vs,rfl,h1,h2⟩:=rx.tup;exact⟨a,vs,rfl,.inr h1,by rw[<- h2.length];exact c _ H (Same.refl _) (.int _)⟩
 .cases e
noncomputable def absD:D->Option R
 | .int i=>some (.int (if i < 0 then -i else i),.cl)
 | _=>none
theorem zPN:OpD1 X.K (λxs H Q=>∃ i,xs=[.int i]/\Q (.int (if i < 0 then -i else i)) H) absD:=by
 intro S H x z vx Q _ e rx c;unfold absD at e;split at e
 .cases e;rename_i i;have:=rx.int;subst this;exact⟨i,rfl,c _ H (Same.refl _) (.int _)⟩
 .cases e
def zIl:D->Option R
 | .lst ds=>some (.lst ds,.fr)
 | .tup ds=>some (.lst ds,.fr)
 | _=>none
theorem zMW:OpD1 X.K (λxs H Q=>∃ p ys,xs=[.ref p]/\(SqL X.K H p ys\/SqT X.K H p ys)/\∀ l,H l=none->Q (.ref l) (upd H l (.lst ys))) zIl:=by
 intro S H x z vx Q sok e rx c;unfold zIl at e;split at e
 .cases e;obtain⟨a,vs,rfl,h1,h2⟩:=rx.lst;exact⟨a,vs,rfl,.inl h1,λp n=>c _ _ (zAp n _) (.lstNew (Same.refl _) sok n h2)⟩
 .cases e;obtain⟨a,vs,rfl,h1,h2⟩:=rx.tup;exact⟨a,vs,rfl,.inr h1,λp n=>c _ _ (zAp n _) (.lstNew (Same.refl _) sok n h2)⟩
 .cases e
theorem zUY {x:Str}{id:String}{p pos:Pos}{e1 e2:Expr}{f g:Dst->Option R}{k:Int->Int->Int}{o:D->D->Option R}(hc:zDv X (.builtin id) (λxs H Q=>∃ i j,xs=[.int i,.int j]/\Q (.int (k i j)) H))
  (h:∀ x y z,o x y=some z->∃ i j,x=.int i/\y=.int j/\z=(.int (k i j),.cl)) (hg:Gl X x) (hm:X.mg x=none) (hv:bootBuiltins x=some (.builtin id)) (ha:GE X e1 f) (hb:GE X e2 g)
  (he:starEach [e1,e2] X.env=(false,eval e1 X.env)::starEach [e2] X.env) (he2:starEach [e2] X.env=[(false,eval e2 X.env)]) (hn:x ≠ "__name__") (hdb:(x==("__debug__":Str))=false):GE X (.Call (.Name x p) [e1,e2] [] pos) (two f g o):=by
 refine(zDx hc hg hm hv (zAY ha (zAY hb zBC he2) he) hn hdb he (by rw[he2];rfl)).imp λB H Q zz50=>?_
 obtain⟨S,G,z,ds,e,c⟩:=zz50;obtain⟨x,ex,e⟩:=bind_some e;obtain⟨y,ey,e⟩:=bind_some e;obtain⟨i,j,hx,hy,rfl⟩:=h _ _ _ e;refine⟨S,G,x,ds,ex,λvx H1 s1 r1=>⟨S,G,y,ds.mono s1,ey,λvy H2 s2 r2=>⟨i,j,?_,c _ H2 (s1.trans s2) (.int _)⟩⟩⟩;have q1:=r1.rd;have q2:=r2.rd;rw[hx] at q1;rw[hy] at q2;rw[q1.int,q2.int]
noncomputable def maxD (x y:D):Option R:=match x,y with
 | .int i,.int j=>some (.int (if j>i then j else i),.cl)
 | _,_=>none
inductive Ty where
 | int | bool | str | tuple | list
 deriving DecidableEq
def Ty.nm:Ty->String
 | .int => "int" | .bool => "bool" | .str => "str" | .tuple => "tuple" | .list => "list"
noncomputable def isiD (t:Ty):D->Bool
 | .non=>false
 | .bl _=>t=.bool||t=.int
 | .int _=>t=.int
 | .str _=>t=.str
 | .tup _=>t=.tuple
 | .lst _=>t=.list
 | .exc _=>false
 | .dct _=>false
 | .lam _ _ _=>false
 | .obj _ _ _=>false
 | .fn _ _=>false
def excB:D->Bool
 | .exc _=>true
 | .dct _=>true
 | .lam _ _ _=>true
 | .obj _ _ _=>true
 | .fn _ _=>true
 | _=>false
def tyD:D->String
 | .non => "NoneType" | .bl _ => "bool" | .int _ => "int" | .str _ => "str" | .tup _ => "tuple" | .lst _ => "list" | .exc _ => "" | .dct _ => "" | .lam _ _ _ => "" | .obj _ _ _ => "" | .fn _ _ => ""
theorem zSS (K:W.Frag)(d:D)(t:Ty)(hd:excB d=false):W.kitOne K (.type (tyD d)) (.type t.nm)=some (isiD t d):=by
 cases d<;>cases t<;>(first | rfl | decide +kernel | cases hd)
theorem zNe (t:Ty):zDv X (.builtin "isinstance") (λxs H Q=>∃ v d,xs=[v,.ty t.nm]/\Den X.K H d v/\excB d=false/\Q (.bl (isiD t d)) H):=by
 intro pins s B H xs us Q I r h;obtain⟨v,d,rfl,hd,hx,q⟩:=h;obtain⟨u,w',rfl,r1,r2⟩:=zMA r;cases r2;have k:=zSS X.K d t hx;have fin:∀ tk,EP X pins B Q (.bool (isiD t d)) { s with toks:=tk }:=λtk=>⟨.bl (isiD t d),H,I.tok tk,rfl,q⟩
 cases d with
 | exc c=>cases hx
 | dct c=>cases hx
 | lam _ _ _=>cases hx
 | obj _ _ _=>cases hx
 | fn _ _=>cases hx
 | non=>rw[Den] at hd;subst hd;cases r1;exact W.kia_one W.kitx_none I.kIn True.intro k (λz=>nomatch z) fin
 | bl b=>rw[Den] at hd;subst hd;cases r1;exact W.kia_one W.kitx_bool I.kIn True.intro k (λz=>nomatch z) fin
 | int i=>rw[Den] at hd;subst hd;obtain⟨tt,rfl⟩:=r1;exact W.kia_one W.kitx_int I.kIn True.intro k (λz=>nomatch z) fin
 | str i=>rw[Den] at hd;subst hd;obtain⟨tt,rfl⟩:=r1;exact W.kia_one W.kitx_str I.kIn True.intro k (λz=>nomatch z) fin
 | tup ds =>
  rw[Den] at hd;obtain⟨a,vs,rfl,h1,h2⟩:=hd;cases r1;obtain⟨its,rv,⟨o,e1,e2,n,e3⟩,_⟩:=I.tuple h1;exact W.kia_one W.kitx_tuple I.kIn ⟨o,e1,e2⟩ k (λz=>nomatch z) fin
 | lst ds =>
  rw[Den] at hd;obtain⟨a,vs,rfl,h1,h2⟩:=hd;cases r1;obtain⟨its,rv,⟨o,n,e1,e2,_,e3⟩,_⟩:=I.list h1;exact W.kia_one W.kitx_list I.kIn ⟨o,e1,e2⟩ k (λz=>nomatch z) fin
def isiF (t:Ty)(x:D):Option R:=if excB x=true then none else some (.bl (isiD t x),.cl)
theorem zQ1 (t:Ty):bootBuiltins (Str.ofString t.nm)=some (.type t.nm):=by cases t<;>decide +kernel
theorem zR5 (t:Ty):(Str.ofString t.nm)≠("__name__":Str)/\((Str.ofString t.nm)==("__debug__":Str))=false:=by cases t<;>decide +kernel
theorem zS2 (hg:Gl X "isinstance")(hm:X.mg "isinstance"=none)(hg2:Gl X (Str.ofString t.nm))(hm2:X.mg (Str.ofString t.nm)=none)(ha:GE X e f)
  (he:starEach [e,.Name (Str.ofString t.nm) p2] X.env=(false,eval e X.env)::starEach [.Name (Str.ofString t.nm) p2] X.env):GE X (.Call (.Name "isinstance" p) [e,.Name (Str.ofString t.nm) p2] [] pos) (one f (isiF t)):=by
 refine(zDx (zNe t) hg hm boot_isinstance (zAY ha (zAY (zPI hg2 hm2 (zQ1 t) (v:=.ty t.nm) rfl (zR5 t).1 (zR5 t).2) zBC rfl) he) (by decide) (by decide) he rfl).imp λB H Q zz51=>?_
 obtain⟨S,G,z,ds,e,c⟩:=zz51;obtain⟨x,ex,e⟩:=bind_some e;unfold isiF at e;by_cases hx:excB x.1=true
 .rw [if_pos hx] at e;cases e
 .rw [if_neg hx] at e;cases e;exact⟨S,G,x,ds,ex,λvx H1 s1 r1=>⟨vx,x.1,rfl,r1.rd.whole,by simpa using hx,c _ H1 s1 (.bl _)⟩⟩
def spD (K:W.Frag)(F:List D->Option R):Sp:=λvs H Q _=>∃ S ds r,(∀ a∈S,∃ xs:HO,H a=some xs/\MuB xs)/\DenL K (hide H S) ds vs/\F ds=some r/\r.2≠.dt/\∀ v H',Same H H'->RV K H H' S r v->Q v H'
def spD0 (K:W.Frag)(F:List D->Option R):Sp:=λvs H Q _=>∃ ds r,DenL K H ds vs/\F ds=some r/\r.2≠.dt/\∀ v H',Same H H'->RV K H H' [] r v->Q v H'
def zHS (F:List D->Option R)(g:Dst->Option (List D)):Dst->Option R:=λG=>(g G).bind λds=>(F ds).bind λr=>if r.2=.dt then none else some r
theorem zII {F:List D->Option R}{g:Dst->Option (List D)}{B:St}{H:Hp}{Q:VK}(q:gT X.K (zHS F g) B H Q):zMF (spD X.K F) [] E0 (gA X.K g) B H Q:=by
 obtain⟨S,G,z,ds,e,c⟩:=q;obtain⟨xs,ex,e⟩:=bind_some e;obtain⟨r,er,e⟩:=bind_some e;by_cases hr:r.2=.dt
 .rw [if_pos hr] at e;cases e
 rw[if_neg hr] at e;cases e;refine⟨S,G,xs,ds,ex,λvs H1 s1 r1=>?_⟩;show spD X.K F (vs++[]) H1 Q E0;rw[append_nil];exact⟨S,xs,_,(ds.mono s1).sok,r1,er,hr,λv H' s2 r2=>c v H' (s1.trans s2) (r2.from s1)⟩
theorem zQL {k:Nat}{f:Addr}{fd:FuncData}{ps:List Str}{F:List D->Option R}{x:Str}{p pos:Pos}{e:Expr}{es:List Expr}{g:Dst->Option (List D)}(FO:FnOk X.prog X.w X.K X.mg X.base CX0 k f fd ps (spD X.K F))(hr:Room k X.A)(hg:Gl X x)(hm:X.mg x=some (.ref f))
  (hk:W.keepIn X.K (.ref f)=true) (hb:zBU X.K fd ps []) (ha:GA X (e::es) g) (hdb:(x==("__debug__":Str))=false) (he:starEach (e::es) X.env=(false,eval e X.env)::starEach es X.env) (hpl:∀ pos,(backTo pos (starEach es X.env)).any (·.1)=false) :
  GE X (.Call (.Name x p) (e::es) [] pos) (zHS F g) :=
 (zJr FO hr hg hm hk hb .nil zJs ha hdb he (hpl pos)).imp λ_ _ _ q=>zII q
theorem zM8 (FO:FnOk X.prog X.w X.K X.mg X.base CX0 k f fd ps (spD X.K F))(hr:Room k X.A)(hg:Gl X x)(hm:X.mg x=some (.ref f))
  (hk:W.keepIn X.K (.ref f)=true) (hb:zBU X.K fd ps []) (hdb:(x==("__debug__":Str))=false):GE X (.Call (.Name x p) [] [] pos) (zHS F λ_=>some []):=by
 refine(zMV FO hr hg hm hk hb .nil zJs hdb).imp λB H Q q=>?_
 obtain⟨S,G,z,ds,e,c⟩:=zII q;cases e;exact c [] H (Same.refl _) .nil
def gAL (K:W.Frag)(f:Dst->Option (List D)):TA:=λB H Q=>∃ S G ds,DS K H S B G/\f G=some ds/\∀ vs H',Same H H'->DenL K H' ds vs->Q vs H'
def GAL (X:Cx)(es:List Expr)(f:Dst->Option (List D)):Prop:=PA X es (gAL X.K f)
theorem zQS:GAL X [] (λ_=>some []):=zBC.imp λB H Q zz52=>by
 obtain⟨S,G,z,ds,e,c⟩:=zz52;cases e;exact c [] H (Same.refl _) .nil
def zTc (f:Dst->Option R)(g:Dst->Option (List D)):Dst->Option (List D):=λG=>(f G).bind λx=>(g G).bind λxs=>some (x.1::xs)
theorem zNA (ha:GE X e f)(hr:GAL X es g)(hs:starEach (e::es) X.env=(false,eval e X.env)::starEach es X.env):GAL X (e::es) (zTc f g):=by
 refine(zAY ha hr hs).imp λB H Q zz53=>?_
 obtain⟨S,G,z,ds,e,c⟩:=zz53;obtain⟨x,ex,e⟩:=bind_some e;obtain⟨xs,exs,e⟩:=bind_some e;cases e;refine⟨S,G,x,ds,ex,λv H1 s1 r1=>⟨S,G,xs,ds.mono s1,exs,λvs H2 s2 r2=>?_⟩⟩;exact c _ H2 (s1.trans s2) (.cons (r1.rd.whole.mono s2) r2)
theorem zER {K:W.Frag}(e0:Env0 P w K mg base A outer s H)(hS:∀ a∈S,∃ xs:HO,H a=some xs/\MuB xs)(hk:r.2≠.dt)
  (run:Env0 P w K mg base A outer s (hide H S)->codeAny (model P w) A cd (CR CX0 outer P w (hide H S) s (λv H2=>RV K (hide H S) H2 [] r v/\Same (hide H S) H2) E) s) (c:∀ v H',Same H H'->RV K H H' S r v->Q v H'):codeAny (model P w) A cd (CR CX0 outer P w H s Q E) s:=by
 have inS:∀ {b:Addr} {o:HO},b∈S->H b=some o->MuB o:=λ{b o} z e=>by
  obtain⟨xs,q,mu⟩:=hS b z;rw[q] at e;cases e;exact mu
 have hok:HOk P w (hide H S) s.heap:=λb o e=>by
  obtain⟨nb,e'⟩:=zA7 e;refine(e0.hok b o e').stay (λc u _ q=>q) (λc q=>?_) (λc xs q=>?_) λc ob u q _=>?_
  .rw [zAT λz=>?_]
   .exact q
   .exact (inS z q).elim
  .rw [zAT λz=>?_]
   .exact q
   .exact (inS z q).elim
  .rw [zAT λz=>?_]
   .exact q
   .exact (inS z q).elim
 have none_of:∀ {b:Addr},H b=none->hide H S b=none:=λ{b} q=>by
  by_cases z:b∈S
  .exact zCG z
  .rw [zAT z];exact q
 have e1:Env0 P w K mg base A outer s (hide H S):=⟨e0.frames,e0.mod,λb o e=>⟨(e0.bs b o e).1,none_of (e0.bs b o e).2⟩,e0.bsz,e0.funs,λb z=>none_of (e0.frf b z),hok,e0.bare,e0.tree,λx hx c P e=>by
  have q:=e0.tabs x hx c P e;rw[zAT λz=>(inS z q).elim];exact q⟩
 refine codeAny_mono (run e1) λres s' h=>?_
 cases res with
 | error e=>exact h.elim
 | ok fl =>
  cases fl with
  | next=>exact h
  | brk=>exact h
  | cont=>exact h
  | ret u =>
   obtain⟨v,H2,os,bare,un,hok2,rv2,r2,s2⟩:=h;have there:∀ {b:Addr},b∈S->∃ ob xs,s.heap.get? b=some ob/\s'.heap.get? b=some ob/\H2 b=none/\H b=some xs/\MuB xs/\zBm P w H s.heap b xs:=λ{b} z=>by
    obtain⟨xs,q,mu⟩:=hS b z;have ok:=e0.hok b _ q;obtain⟨ob,e⟩:∃ ob,s.heap.get? b=some ob:=by
     cases xs with
     | lst ys=>obtain⟨z1,its,n,r1,e⟩:=id ok;exact⟨_,e⟩
     | dT kvs=>obtain⟨_,_,_,_,ob,_,_,e,_⟩:=id ok;exact⟨ob,e⟩
     | _=>exact mu.elim
    have nf:b∉frs outer:=λz2=>by rw[e0.frf b z2] at q;cases q
    exact⟨ob,xs,e,un.keep b _ e (zCG z) nf (by simp),un.free b _ e (zCG z) (by simp),q,mu,ok⟩
   have out:∀ {b:Addr} {o:HO},H2 b=some o->b∉S:=λ{b o} e z=>by
    obtain⟨_,_,_,_,q,_⟩:=there z;rw[q] at e;cases e
   obtain⟨H',h'in,h'out⟩:∃ H':Hp,(∀ {b:Addr},b∈S->H' b=H b)/\(∀ {b:Addr},b∉S->H' b=H2 b):=⟨λb=>if b∈S then H b else H2 b,λz=>if_pos z,λz=>if_neg z⟩;have sH:Same H H':=λb o e=>by
    by_cases z:b∈S
    .rw [h'in z];exact e
    .rw [h'out z];exact s2 b o (by rw[zAT z];exact e)
   have sub:Same H2 (hide H' S):=λb o e=>by
    rw[zAT (out e),h'out (out e)];exact e
   refine⟨v,H',os,bare,⟨λb o e n=>un.keep b o e (none_of n),λb o e n=>un.slot b o e (none_of n),λb o e n hx=>?_,un.there,λb xs e=>?_,λb o u e=>?_,λb ps e=>?_⟩,λb o e=>?_,rv2,c v H' sH ?_⟩
   .by_cases z:b∈S
    .rw [h'in z];exact n
    .rw [h'out z];exact un.free b o e (none_of n) hx
   .exact sH b _ e
   .exact sH b _ e
   .exact sH b _ e
   .by_cases z:b∈S
    .rw [h'in z] at e;obtain⟨ob,xs,g1,g2,_,g4,mu,ok⟩:=there z;rw[g4] at e;cases e;cases o with
     | lst ys =>
      obtain⟨z1,its,n,r1,e⟩:=ok;rw[g1] at e;cases e;exact⟨z1,its,n,r1,g2⟩
     | dT kvs =>
      obtain⟨z1,z2,xs,r1,ob',es,ep,e,rest⟩:=ok;rw[g1] at e;cases e;exact⟨z1,z2,xs,Paired.mapP r1 λp q z=>⟨z.1,sH _ _ z.2.1,z.2.2⟩,ob,es,ep,g2,rest⟩
     | _=>exact mu.elim
    .rw [h'out z] at e;exact(hok2 b o e).stay (λc u _ q=>q) (λc q=>by rw[h'out (out q)];exact q) (λc xs q=>by rw[h'out (out q)];exact q) λc ob u q _=>by rw[h'out (out q)];exact q
   .obtain ⟨d,kd⟩:=r;cases kd with
    | cl =>
     have q:Den K (hide H2 []) d v:=r2;rw[zBe] at q;exact q.mono sub
    | fr =>
     obtain⟨a,ws,es,ev,ed,_,na,ha,t⟩:=r2;have aS:a∉S:=out ha;refine⟨a,ws,es,ev,ed,aS,by rw[zAT aS] at na;exact na,by rw[h'out aS];exact ha,t.mono λb o e=>?_⟩;obtain⟨q1,q2⟩:=zA7 e;have nb:b∉a::S:=λz=>(mem_cons.mp z).elim (λz=>q1 (by rw[z];exact q8)) (out q2)
     rw[zAT nb,h'out (out q2)];exact q2
    | dt=>exact absurd rfl hk
theorem FnOk.framed {K:W.Frag}(G:FnOk P w K mg base CX0 k f fd ps (spD0 K F)):FnOk P w K mg base CX0 k f fd ps (spD K F):=by
 refine⟨λvs H Q E h=>?_,λA outer s H args us vs Q E hr e0 hb rv h=>?_⟩
 .obtain ⟨S,ds,r,hS,hd,hF,hk,c⟩:=h;exact G.len vs (hide H S) (λ_ _=>True) E ⟨ds,r,hd,hF,hk,λ_ _ _ _=>trivial⟩
 obtain⟨S,ds,r,hS,hd,hF,hk,c⟩:=h;exact zER e0 hS hk (λe1=>G.run A outer s (hide H S) args us vs (λv H2=>RV K (hide H S) H2 [] r v/\Same (hide H S) H2) E hr e1 hb rv ⟨ds,r,hd,hF,hk,λv H' s1 r1=>⟨r1,s1⟩⟩) c
end
inductive Out where
 | nx (G:Dst) | rt (r:R) | bk (G:Dst) | ct (G:Dst)
def Post (K:W.Frag)(H0:Hp)(o:Out)(E:Ends):Prop:=match o with
 | .nx G'=>∀ S' B' H',DS K H' S' B' G'->Same H0 (hide H' S')->E.nx B' H'
 | .bk G'=>∀ S' B' H',DS K H' S' B' G'->Same H0 (hide H' S')->E.bk B' H'
 | .ct G'=>∀ S' B' H',DS K H' S' B' G'->Same H0 (hide H' S')->E.ct B' H'
 | .rt r=>r.2≠.dt/\∀ v H',Same H0 H'->RV K H0 H' [] r v->E.rt v H'
def gS (K:W.Frag)(H0:Hp)(g:Dst->Option Out):TS:=λE B H=>∃ S G o,DS K H S B G/\Same H0 (hide H S)/\g G=some o/\Post K H0 o E
def GS (X:Cx)(st:Stmt)(g:Dst->Option Out):Prop:=∀ H0,PS X st (gS X.K H0 g)
def GSs (X:Cx)(st:List Stmt)(g:Dst->Option Out):Prop:=∀ H0,PSs X st (gS X.K H0 g)
theorem _root_.L2.PS.imp {st:Stmt}(h:PS X st t)(i:∀ E B H,t' E B H->t E B H):PS X st t':=λpins s B H E I q=>h pins s B H E I (i E B H q)
theorem _root_.L2.PSs.imp {st:List Stmt}(h:PSs X st t)(i:∀ E B H,t' E B H->t E B H):PSs X st t':=λpins s B H E I q=>h pins s B H E I (i E B H q)
section
variable {X:Cx}
def seqD (f g:Dst->Option Out):Dst->Option Out:=λG=>(f G).bind λo=>match o with
 | .nx G'=>g G'
 | o=>some o
theorem zP6:GSs X [] (λG=>some (.nx G)):=λH0=>zGx.imp λE B H zz54=>by
 obtain⟨S,G,o,ds,h0,e,p⟩:=zz54;cases e;exact p S B H ds h0
theorem zM0 {st:Stmt}(h1:GS X st f)(h2:GSs X rest g):GSs X (st::rest) (seqD f g):=λH0=>(zFQ (h1 H0) (h2 H0)).imp λE B H zz55=>by
 obtain⟨S,G,o,ds,h0,e,p⟩:=zz55;obtain⟨o1,e1,e⟩:=bind_some e;refine⟨S,G,o1,ds,h0,e1,?_⟩;cases o1 with
 | nx G'=>exact λS' B' H' d' s'=>⟨S',G',o,d',s',e,p⟩
 | rt r=>cases e;exact p
 | bk G'=>cases e;exact p
 | ct G'=>cases e;exact p
theorem zP5 (hf:∀ G o,f G=some o->∃ G',o=.nx G'/\∀ K H S B,DS K H S B G->∃ S',(∀ b∈S',b∈S)/\DS K H S' B G')(h2:GSs X rest g):GSs X rest (seqD f g):=λH0=>(h2 H0).imp λE B H zz56=>by
 obtain⟨S,G,o,ds,h0,e,p⟩:=zz56;obtain⟨o1,e1,e⟩:=bind_some e;obtain⟨G',rfl,k⟩:=hf G o1 e1;obtain⟨S',sub,d'⟩:=k _ H S B ds;exact⟨S',G',o,d',h0.trans (zB4 sub),e,p⟩
theorem zTT {K:W.Frag}(ds:DS K H S B G)(h0:Same H0 (hide H S))(s1:Same H H')(p:Post K H0 (.nx G) E):E.nx B H' :=
 p S B H' (ds.mono s1) (h0.trans (zAU s1))
noncomputable def retD (f:Dst->Option R):Dst->Option Out:=λG=>(f G).bind λr=>if r.2=.dt then none else some (.rt r)
theorem RV.up {K:W.Frag}(h0:Same H0 (hide H S))(s1:Same H H')(hr:r.2≠.dt)(h:RV K H H' S r v):Same H0 H'/\RV K H0 H' [] r v:=by
 refine⟨h0.trans (zAq.trans s1),?_⟩;obtain⟨d,k⟩:=r;cases k with
 | cl =>
  show Den K (hide H' []) d v;rw[zBe];exact Den.mono zAq h
 | fr =>
  obtain⟨a,vs,ds,e1,e2,e3,e4,e5,t⟩:=h;refine⟨a,vs,ds,e1,e2,by simp,?_,e5,t.mono (zB4 λb z=>by
   have:b=a:=by simpa using z
   rw[this];exact q8)⟩
  cases q:H0 a with
  | none=>rfl
  | some o =>
   have:=(zA7 (h0 a o q)).2;rw[e4] at this;cases this
 | dt=>exact absurd rfl hr
theorem zSh (h:GE X e f):GS X (.Return (some e) pos) (retD f):=λH0=>(zJl h).imp λE B H zz57=>by
 obtain⟨S,G,o,ds,h0,e,p⟩:=zz57;obtain⟨r,er,e⟩:=bind_some e;by_cases hr:r.2=.dt
 .rw [if_pos hr] at e;cases e
 rw[if_neg hr] at e;cases e;refine⟨S,G,r,ds,er,λv H' s1 r1=>?_⟩;obtain⟨q1,q2⟩:=RV.up h0 s1 hr r1;exact p.2 v H' q1 q2
def zD7 (i:Nat):Dst->Option Out:=λG=>match G[i]? with
 | some (some (.lst d,true))=>some (.rt (.lst d,.fr))
 | _=>none
theorem zKm (hN:X.N[i]?=some x)(hv:Vis X.env.scope x)(hd:(x==("__debug__":Str))=false)(hcd:(x==("__classdict__":Str))=false):GS X (.Return (some (.Name x pos')) pos) (zD7 i):=λH0=>(zJl (zDg hN hv hd hcd)).imp λE B H zz58=>by
 obtain⟨S,G,o,ds,h0,e,p⟩:=zz58;unfold zD7 at e;split at e
 .rename_i d q;cases e;obtain⟨v,q1,q2⟩:=ds.get i _ true q;obtain⟨a,vs,es,rfl,e2,w1,w2,w3⟩:=q2.ownL rfl;refine⟨.ref a,q1,p.2 _ H (h0.trans zAq) ⟨a,vs,es,rfl,e2,by simp,?_,w2,w3.mono (zB4 λb z=>by
   have:b=a:=by simpa using z
   rw[this];exact w1)⟩⟩
  cases q:H0 a with
  | none=>rfl
  | some o=>exact absurd w1 (zA7 (h0 a o q)).1
 .cases e
theorem zHy {st:Stmt}:GS X st (λ_=>none):=λH0=>(zFR (X:=X) (st:=st)).imp λE B H zy130=>by obtain⟨S,G,o,ds,h0,e,p⟩:=zy130;cases e
noncomputable def setD (i:Nat)(f:Dst->Option R):Dst->Option Out:=λG=>(f G).bind λr=>match r.2 with
 | .cl=>some (.nx (G.set i (some (r.1,false))))
 | .fr=>some (.nx (G.set i (some (r.1,true))))
 | .dt=>none
theorem zEj {K:W.Frag}(ds:DS K H S B G)(h0:Same H0 (hide H S))(s1:Same H H')(r1:RV K H H' S r v)
  (e:(match r.2 with | .cl=>some (Out.nx (G.set i (some (r.1,false)))) | .fr=>some (Out.nx (G.set i (some (r.1,true)))) | .dt=>none)=some o) (p:Post K H0 o E):E.nx (B.set i (some v)) H':=by
 obtain⟨d,k⟩:=r;cases k with
 | cl =>
  cases e;exact p S _ H' ((ds.mono s1).set r1) (h0.trans (zAU s1))
 | fr =>
  cases e;obtain⟨a,vs,es,rfl,rfl,e3,e4,e5,t⟩:=r1;exact p (a::S) _ H' (ds.setF s1 e4 e5 t) (h0.trans (zDz s1 e4))
 | dt=>cases e
theorem zOR (hN:X.N.Nodup)(hi:X.N[i]?=some x)(hx:Loc X.env.scope x)(h:GE X e f)(hs:swapsWith e (some (.Name x pos')) pos.line X.env=pure false)(hf:X.fn x=true\/X.env.scope.names.lookup x=some .local) :
  GS X (.Assign [.Name x pos'] e pos) (setD i f):=λH0=>(zN7 hN hi hx h hs hf).imp λE B H zz59=>by
 obtain⟨S,G,o,ds,h0,e,p⟩:=zz59;obtain⟨r,er,e⟩:=bind_some e;exact⟨S,G,r,ds,er,λv H' s1 r1=>zEj ds h0 s1 r1 e p⟩
noncomputable def appD (i:Nat)(f:Dst->Option R):Dst->Option Out:=λG=>match G[i]? with
 | some (some (.lst xs,true))=>(f G).bind λr=>if r.2=.dt then none else if xs.length<=10000 then some (.nx (G.set i (some (.lst (xs++[r.1]),true)))) else none
 | _=>none
theorem zSl (hi:X.N[i]?=some x)(hv:Vis X.env.scope x)(hd:(x==("__debug__":Str))=false)(hcd:(x==("__classdict__":Str))=false)(h:GE X e f)
  (he:starEach [e] X.env=[(false,eval e X.env)]) (hbase:attributeBase (.Name x npos) "append" X.env (eval (.Name x npos) X.env)=eval (.Name x npos) X.env) (hline:(apos.endLine==cpos.line)=true) :
  GS X (.Expr (.Call (.Attribute (.Name x npos) "append" apos) [e] [] cpos) pos) (appD i f):=λH0=>(zFS (zPH PySem.F.plainAttrs_list PySem.F.slot_list_append PySem.F.type_list_append zGG (zDg hi hv hd hcd) (zAY h zBC he) hbase (by rw[he];rfl) hline he rfl) rfl).imp λE B H zz60=>by
 obtain⟨S,G,o,ds,h0,e,p⟩:=zz60;unfold appD at e;split at e
 .rename_i xs q;obtain⟨r,er,e⟩:=bind_some e;by_cases hr:r.2=.dt
  .rw [if_pos hr] at e;cases e
  rw[if_neg hr] at e;by_cases hl:xs.length<=10000
  .rw [if_pos hl] at e;cases e;obtain⟨v,q1,q2⟩:=ds.get i _ true q;obtain⟨a,vs,es,rfl,e2,w1,w2,w3⟩:=q2.ownL rfl;cases e2;refine⟨.ref a,q1,.inl ⟨rfl,_,SqL.of w2⟩,S,G,r,ds,er,λy H1 s1 r1=>?_⟩;have hy:Den X.K (hide H1 S) r.1 y:=RV.den (d:=r.1) (k:=r.2) r1 hr;have w3':=w3.mono (zAU s1 (S:=S));refine⟨a,vs,y,rfl,rfl,s1 _ _ w2,by rw[<- w3.length];exact Nat.lt_of_le_of_lt hl (by decide),?_⟩;have t:DenL X.K (hide H1 S) (xs++[r.1]) (vs++[y]):=w3'.append (.cons hy .nil);have d2:=(ds.mono s1).change (i:=i) q q1 t;refine p S B _ d2 ?_;rw[zFe w1];exact h0.trans (zAU s1)
  .rw [if_neg hl] at e;cases e
 .cases e
def ifD (c:Dst->Option Bool)(f g:Dst->Option Out):Dst->Option Out:=λG=>(c G).bind λb=>if b=true then f G else g G
theorem zUO (hc:GT X c k)(ha:GSs X a f)(hb:GSs X b g):GS X (.If c a b pos) (ifD k f g):=λH0=>(zRa hc (ha H0) (hb H0)).imp λE B H zz61=>by
 obtain⟨S,G,o,ds,h0,e,p⟩:=zz61;obtain⟨b,eb,e⟩:=bind_some e;refine⟨S,G,b,ds,eb,λH1 s1=>?_⟩;cases b with
 | true =>
  rw[if_pos rfl] at e ⊢;exact⟨S,G,o,ds.mono s1,h0.trans (zAU s1),e,p⟩
 | false =>
  rw[if_neg qY] at e ⊢;exact⟨S,G,o,ds.mono s1,h0.trans (zAU s1),e,p⟩
def zBz (c:Dst->Option Bool)(b:Dst->Option Out):Nat->Dst->Option Out
 | 0,_=>none
 | n+1,G=>(c G).bind λk=>if k=true then (b G).bind λo=>(match o with
   | .nx G'=>zBz c b n G'
   | .ct G'=>zBz c b n G'
   | .bk G'=>some (.nx G')
   | .rt r=>some (.rt r)) else some (.nx G)
theorem zCw :∀ {n:Nat} {G:Dst} {o:Out},zBz c b n G=some o->zBz c b (n+1) G=some o
 | 0,_,_,h=>by cases h
 | n+1,G,o,h=>by
  obtain⟨k,ek,h⟩:=bind_some h;show (c G).bind _=some o;rw[ek];cases k with
  | false =>
   rw[if_neg qY] at h;rw[qx,if_neg qY];exact h
  | true =>
   rw[if_pos rfl] at h;rw[qx,if_pos rfl];obtain⟨o1,e1,h⟩:=bind_some h;rw[e1];cases o1 with
   | nx G'=>exact zCw (n:=n) h
   | ct G'=>exact zCw (n:=n) h
   | bk G'=>exact h
   | rt r=>exact h
theorem zD5 (h:zBz c b n G=some o)(l:n<=m):zBz c b m G=some o:=by
 induction m with
 | zero =>
      have:n=0:=by omega
      subst this;exact h
 | succ m ih =>
  by_cases q:n<=m
  .exact zCw (ih q)
  .have:n=m+1:=by omega
   subst this;exact h
open Classical in
def zBb (c:Dst->Option Bool)(b:Dst->Option Out)(G:Dst):Option Out :=
 if h:∃ n o,zBz c b n G=some o then some (Classical.choose (choose_spec h)) else none
theorem zCT (h:zBz c b n G=some o):zBb c b G=some o:=by
 have ex:∃ n o,zBz c b n G=some o:=⟨n,o,h⟩;unfold zBb;rw[dif_pos ex];have q:=choose_spec (choose_spec ex);have q1:=zD5 q (Nat.le_max_left _ n);have q2:=zD5 h (Nat.le_max_right (Classical.choose ex) n);rw[q1] at q2;exact q2
theorem zDQ (h:zBb c b G=some o):∃ n,zBz c b n G=some o:=by
 unfold zBb at h;by_cases ex:∃ n o,zBz c b n G=some o
 .rw [dif_pos ex] at h;have q:=choose_spec (choose_spec ex);cases h;exact⟨_,q⟩
 .rw [dif_neg ex] at h;cases h
theorem zM2 (hp:PassesOwn (model X.prog X.w) X.A X.env X.xe)(hc:GT X c k)(hb:GSs X body f):GS X (.While c body [] pos) (zBb k f):=λH0=>(zMQ hp hc (hb H0)).imp λE B H zz62=>by
 obtain⟨S,G,o,ds,h0,e,p⟩:=zz62;obtain⟨n,en⟩:=zDQ e;refine⟨λm B H=>∃ S G,DS X.K H S B G/\Same H0 (hide H S)/\zBz k f m G=some o,⟨n,S,G,ds,h0,en⟩,?_⟩;rintro m B H ⟨S,G,ds,h0,en⟩;cases m with
 | zero=>cases en
 | succ m =>
  obtain⟨b,eb,en⟩:=bind_some en;refine⟨S,G,b,ds,eb,λH1 s1=>?_⟩;cases b with
  | false =>
   rw[if_neg qY] at en ⊢;cases en;exact zTT ds h0 s1 p
  | true =>
   rw[if_pos rfl] at en ⊢;obtain⟨o1,e1,en⟩:=bind_some en;refine⟨λB' H'=>∃ S G,DS X.K H' S B' G/\Same H0 (hide H' S)/\zBz k f m G=some o,λB' H' q=>⟨m,Nat.lt_succ_self m,q⟩,S,G,o1,ds.mono s1,h0.trans (zAU s1),e1,?_⟩;cases o1 with
   | nx G'=>exact λS' B' H' d' q'=>⟨S',G',d',q',en⟩
   | ct G'=>exact λS' B' H' d' q'=>⟨S',G',d',q',en⟩
   | bk G'=>cases en;exact p
   | rt r=>cases en;exact p
noncomputable def forD (t:D->Dst->Option Dst)(b:Dst->Option Out):List D->Dst->Option Out
 | [],G=>some (.nx G)
 | x::xs,G=>(t x G).bind λO5=>(b O5).bind λo=>match o with
  | .nx G'=>forD t b xs G'
  | .ct G'=>forD t b xs G'
  | .bk G'=>some (.nx G')
  | .rt r=>some (.rt r)
def GG (X:Cx)(tg:Expr)(t:D->Dst->Option Dst):Prop:=∃ g,PG X tg g/\∀ (K:W.Frag),K=X.K->∀ (x:D) (v:V) (B:St) (H:Hp) (S:List Addr) (G G':Dst) (Q:St->Hp->Prop),DS K H S B G->Den K (hide H S) x v->t x G=some G'->(∀ B',DS K H S B' G'->Q B' H)->g v B H Q
theorem zKs (hN:X.N.Nodup)(hi:X.N[i]?=some x)(hx:Loc X.env.scope x)(hf:X.fn x=true\/X.env.scope.names.lookup x=some .local):GG X (.Name x pos) (λd G=>some (G.set i (some (d,false)))) :=
 ⟨_,zFU hN hi hx hf,λK hK x v B H S G G' Q ds hv e q=>by
  cases e;exact q _ (ds.set hv)⟩
noncomputable def tg2 (i j:Nat):D->Dst->Option Dst:=λd G=>match d with
 | .tup [a,b]=>some ((G.set i (some (a,false))).set j (some (b,false)))
 | _=>none
def GI (X:Cx)(tg iter:Expr)(f:Dst->Option (List D)):Prop:=∃ wi,PI X tg iter wi/\∀ (B:St) (H:Hp) (S:List Addr) (G:Dst) (xs:List D) (Rr:It->Hp->Prop),DS X.K H S B G->f G=some xs ->
 (∀ J H1,Same H H1->(∀ (i:Nat) H2,i<=xs.length->Same (hide H1 S) H2->(i=xs.length->J.stop i H2)/\(i < xs.length->J.go i H2/\∀ v H3,J.yld i H2 v H3->H3=H2/\∀ x,xs[i]?=some x->Den X.K (hide H1 S) x v))->Rr J H1)->wi B H Rr
theorem zSi (hp:PassesOwn (model X.prog X.w) X.A X.env X.xe)(hc:X.calm=true)(hi:GI X tg iter f)(hg:GG X tg t)(hb:GSs X body b)
  (hs:∀ x,foldedSetIterable iter X.env x=pure x):GS X (.For tg iter body [] pos) (λG=>(f G).bind λxs=>forD t b xs G):=by
 intro H0;obtain⟨wi,hwi,hI⟩:=hi;obtain⟨g,hg,hG⟩:=hg;intro pins s B H E I ⟨S,G,o,ds,h0,e,p⟩;obtain⟨xs,ex,e⟩:=bind_some e;refine(zN8 (tb:=λE B H2=>∃ H1,gS X.K (hide H1 S) b E B H2/\Same (hide H1 S) (hide H1 S)) hp hc hwi hg ?_ hs) pins s B H E I ?_
 .intro pins s B H E I ⟨H1,q,_⟩;exact hb (hide H1 S) pins s B H E I q
 refine hI B H S G xs _ ds ex λJ H1 s1 hJ=>?_
 refine⟨λi m B' H2=>i<=xs.length/\m=xs.length - i/\∃ S' G',DS X.K H2 S' B' G'/\Same (hide H1 S) (hide H2 S')/\forD t b (xs.drop i) G'=some o,⟨xs.length,zero_le _,by omega,S,G,ds.mono s1,Same.refl _,e⟩,?_⟩;rintro i m B' H2 ⟨hi,rfl,S',G',ds',k',e'⟩;have kH:Same H0 (hide H1 S):=h0.trans (zAU s1);obtain⟨j1,j2⟩:=hJ i H2 hi (k'.trans zAq);by_cases hlt:i < xs.length
 .obtain ⟨go,yl⟩:=j2 hlt;have hd:xs.drop i=xs[i]::xs.drop (i+1):=drop_eq_getElem_cons hlt;rw[hd] at e';obtain⟨O5,e1,e'⟩:=bind_some e';obtain⟨o1,e2,e'⟩:=bind_some e';refine .inr ⟨go,λB3 H3=>∃ S' G',DS X.K H3 S' B3 G'/\Same (hide H1 S) (hide H3 S')/\forD t b (xs.drop (i+1)) G'=some o,λB3 H3 q=>⟨xs.length - (i+1),by omega,hlt,rfl,q⟩,λv H3 y=>?_⟩;obtain⟨rfl,hv⟩:=yl v H3 y;refine hG X.K rfl xs[i] v B' H3 S' G' O5 _ ds' ((hv _ (by simp[hlt])).mono k') e1 λB4 ds4=>⟨H1,⟨S',O5,o1,ds4,k',e2,?_⟩,Same.refl _⟩
  cases o1 with
  | nx Y9=>exact λS2 B2 H4 d2 q2=>⟨S2,Y9,d2,q2,e'⟩
  | ct Y9=>exact λS2 B2 H4 d2 q2=>⟨S2,Y9,d2,q2,e'⟩
  | bk Y9 =>
   cases e';exact λS2 B2 H4 d2 q2=>p S2 B2 H4 d2 (kH.trans q2)
  | rt r =>
   cases e';refine⟨p.1,λv H4 q1 q2=>p.2 v H4 (kH.trans q1) (q2.from kH)⟩
 .have ei:i=xs.length:=by omega
  subst ei;rw[drop_eq_nil_of_le (le_refl _)] at e';cases e';exact .inl ⟨j1 rfl,p S' B' H2 ds' (kH.trans k')⟩
def rngL (lo:Int)(n:Nat):List D:=(List.range n).map λ(k:Nat)=>D.int (lo+k)
theorem zF7 {K:W.Frag}{lo:Int}(i:Nat)(H2:Hp)(hi:i<=(rngL lo n).length):(i=(rngL lo n).length->(Itr lo n).stop i H2)/\(i < (rngL lo n).length->(Itr lo n).go i H2/\∀ v H3,(Itr lo n).yld i H2 v H3->H3=H2/\∀ x,(rngL lo n)[i]?=some x->Den K (hide H1 S) x v):=by
 have hl:(rngL lo n).length=n:=by unfold rngL;simp
 refine⟨λe=>by rw[hl] at e;exact Nat.le_of_eq e.symm,λh=>⟨by rw[hl] at h;exact h,λv H3 y=>⟨y.1,λx ex=>?_⟩⟩⟩;have hv:v=.int (lo+i):=y.2;rw[hl] at h;have:(rngL lo n)[i]?=some (D.int (lo+(i:Int))):=by unfold rngL;simp[h]
 rw[this] at ex;cases ex;rw[Den];exact hv
def zJc (f:Dst->Option R):Dst->Option (List D):=λG=>match f G with
 | some (.int j,_)=>if -(2^62)<=j/\j < 2^62 then some (rngL 0 j.toNat) else none
 | _=>none
theorem zKr (hg:Gl X "range")(hm:X.mg "range"=none)(h:GE X a f)(hs:starEach [a] X.env=[(false,eval a X.env)]):GI X tg (.Call (.Name "range" p) [a] [] pos) (zJc f):=by
 refine⟨_,zGB hg hm (zAY h zBC hs) hs,λB H S G xs Rr ds e q=>?_⟩;unfold zJc at e;split at e
 .rename_i j k ej;by_cases hj:-(2^62)<=j/\j < 2^62
  .rw [if_pos hj] at e;cases e;exact⟨S,G,_,ds,ej,λv H1 s1 r1=>⟨j,by rw[r1.rd.int],hj.1,hj.2,q _ H1 s1 λi H2 hi _=>zF7 i H2 hi⟩⟩
  .rw [if_neg hj] at e;cases e
 .cases e
def zGu (f g:Dst->Option R):Dst->Option (List D):=λG=>match f G,g G with
 | some (.int i,_),some (.int j,_)=>if (-(2^62)<=i/\i < 2^62)/\-(2^62)<=j/\j < 2^62 then some (rngL i (j - i).toNat) else none
 | _,_=>none
theorem zKq (hg:Gl X "range")(hm:X.mg "range"=none)(ha:GE X a f)(hb:GE X b g)(hs:starEach [a,b] X.env=(false,eval a X.env)::starEach [b] X.env)(hs2:starEach [b] X.env=[(false,eval b X.env)]):GI X tg (.Call (.Name "range" p) [a,b] [] pos) (zGu f g):=by
 refine⟨_,zGA hg hm (zAY ha (zAY hb zBC hs2) hs) (by rw[hs,hs2]) hs2,λB H S G xs Rr ds e q=>?_⟩;unfold zGu at e;split at e
 .rename_i i k j k2 ei ej;by_cases hj:(-(2^62)<=i/\i < 2^62)/\-(2^62)<=j/\j < 2^62
  .rw [if_pos hj] at e;cases e;exact⟨S,G,_,ds,ei,λv H1 s1 r1=>⟨S,G,_,ds.mono s1,ej,λu H2 s2 r2=>⟨i,j,by rw[r1.rd.int,r2.rd.int],⟨hj.1.1,hj.1.2,hj.2.1,hj.2.2⟩,q _ H2 (s1.trans s2) λi H2 hi _=>zF7 i H2 hi⟩⟩⟩
  .rw [if_neg hj] at e;cases e
 .cases e
noncomputable def frzD (i:Nat):Dst->Option Out:=λG=>match G[i]? with
 | some (some (d,true))=>some (.nx (G.set i (some (d,false))))
 | _=>some (.nx G)
theorem zTC :∀ G o,frzD i G=some o->∃ G',o=.nx G'/\∀ K H S B,DS K H S B G->∃ S',(∀ b∈S',b∈S)/\DS K H S' B G':=λG o e=>by
 unfold frzD at e;split at e
 .rename_i d q;cases e;exact⟨_,rfl,λK H S B ds=>ds.freeze q⟩
 .cases e;exact⟨_,rfl,λK H S B ds=>⟨S,λ_ z=>z,ds⟩⟩
noncomputable def dFun (np nN:Nat)(g:Dst->Option Out)(ds:List D):Option R :=
 if ds.length=np/\np<=nN then (g (ds.map (λd=>some (d,false))++List.replicate (nN - np) none)).bind λo=>match o with
  | .rt r=>some r
  | .nx _=>some (.non,.cl)
  | _=>none
 else none
theorem zNV {K:W.Frag}(h:DenL K H ds vs)(hl:ds.length<=N.length):DS K H [] (zB0 N vs) (ds.map (λd=>some (d,false))++List.replicate (N.length - ds.length) none):=by
 have el:=h.length;refine⟨by unfold L2.zB0;simp[<- el],λa z=>absurd z (by simp),λi d o q=>?_,λi j d e a q1 _ _ _=>?_⟩
 .have hi:i < ds.length:=by
   by_cases z:i < ds.length
   .exact z
   .rw [getElem?_append_right (by simpa using z),getElem?_replicate] at q;split at q<;>cases q
  rw[getElem?_append_left (by simpa using hi),List.getElem?_map] at q;cases e:ds[i]? with
  | none=>rw[e] at q;cases q
  | some d' =>
   rw[e] at q;cases q;obtain⟨v,q1,q2⟩:=h.get e;refine⟨v,?_,.of_den (by rw[zBe];exact q2)⟩;unfold L2.zB0;rw[getElem?_append_left (by rw[qy,<- el];exact hi),List.getElem?_map,q1]
   rfl
 .have hi:i < ds.length:=by
   by_cases z:i < ds.length
   .exact z
   .rw [getElem?_append_right (by simpa using z),getElem?_replicate] at q1;split at q1<;>cases q1
  rw[getElem?_append_left (by simpa using hi),List.getElem?_map] at q1;cases e:ds[i]? with
  | none=>rw[e] at q1;cases q1
  | some d'=>rw[e] at q1;cases q1
theorem zTB {K:W.Frag}{st:Stmt}(F:Fun K x qual st f fd)(S:zAi N ps (zAA st))
  (hbody:∀ (cdv:Value) (A:Around) (outer:List Env) (s:Shared) (H:Hp) (E:XK),Room k (A.deeper (envOfC qual (zAA st) s.heap.objs.size f cdv))->GSs (cxOf CX0 P w K mg base N qual (zAA st) f cdv A outer s H E).nox (zAK st) g) :
  FnOk P w K mg base CX0 (k+1) f fd ps (spD K (dFun ps.length N.length g)):=by
 refine FnOk.framed (F.ok S (λvs H Q E h=>?_) λcdv A outer s H vs Q E hr h=>?_)
 .obtain ⟨ds,r,hd,hF,hk,c⟩:=h;unfold dFun at hF;by_cases q:ds.length=ps.length/\ps.length<=N.length
  .rw [<- hd.length];exact q.1
  .rw [if_neg q] at hF;cases hF
 obtain⟨ds,r,hd,hF,hk,c⟩:=h;refine⟨_,hbody cdv A outer s H E hr H,?_⟩;unfold dFun at hF;by_cases q:ds.length=ps.length/\ps.length<=N.length
 .rw [if_pos q] at hF;obtain⟨o,eo,hF⟩:=bind_some hF;rw[<- q.1] at eo;refine⟨[],_,o,zNV hd (by rw[q.1];exact q.2),by rw[zBe];exact Same.refl _,eo,?_⟩;cases o with
  | nx G' =>
   cases hF;exact λS' B' H' d' s'=>c _ H' (s'.trans zAq) (by show Den _ _ _ _;rw[Den])
  | rt r' =>
   cases hF;exact⟨hk,c⟩
  | bk G'=>cases hF
  | ct G'=>cases hF
 .rw [if_neg q] at hF;cases hF
end
end DL
end
section
namespace DL
open PySem
def zB7 (env:Env):List (Str×NameKind)->List (Str×Addr)->List (Str×Addr)
 | [],acc=>acc
 | (n,k)::r,acc=>zB7 env r (if k==.free then (match env.cells.lookup n with | some c=>(n,c)::acc | none=>acc) else acc)
theorem zFn (f:Str×NameKind->List (Str×Addr)->Sem (ForInStep (List (Str×Addr))))
  (hf:∀ n k cs,f (n,k) cs=if k==.free then (do let a<-cellOf env n;pure (.yield ((n,a)::cs))) else pure (.yield cs)) :
  ∀ (names:List (Str×NameKind)) (acc:List (Str×Addr)),(∀ x∈names,x.2=.free->∃ c,env.cells.lookup x.1=some c)->forIn names acc f=(pure (zB7 env names acc):Sem (List (Str×Addr)))
 | [],acc,_=>by rw[forIn_nil];rfl
 | (n,k)::r,acc,h=>by
  rw[forIn_cons,hf];have hr:∀ x∈r,x.2=.free->∃ c,env.cells.lookup x.1=some c:=λx z=>h x (qJ _ z)
  cases e:k==.free with
  | true =>
   obtain⟨c,ec⟩:=h (n,k) q8 (by simpa using e);have e1:cellOf env n=pure c:=by unfold cellOf;rw[ec]
   rw[if_pos rfl,e1];unfold zB7;rw[e,if_pos rfl,ec];exact zFn f hf r _ hr
  | false =>
   rw[if_neg qY];unfold zB7;rw[e,if_neg qY];exact zFn f hf r _ hr
theorem zBg (h:∀ x∈scope.names,x.2=.free->∃ c,env.cells.lookup x.1=some c):closureFor scope env=pure (zB7 env scope.names []):=by
 show (forIn scope.names ([]:List (Str×Addr)) (λx cs=>match x with
  | (name,kind)=>if (kind==NameKind.free)=true then (do let a<-cellOf env name;pure (ForInStep.yield ((name,a)::cs))) else pure (ForInStep.yield cs))>>=λcs=>pure cs)=_
 rw[zFn (env:=env) _ (λn k cs=>rfl) scope.names [] h]
 rfl
theorem zGc :∀ (names:List (Str×NameKind)) (acc:List (Str×Addr)),(∀ x c,acc.lookup x=some c->env.cells.lookup x=some c)->∀ x c,(zB7 env names acc).lookup x=some c->env.cells.lookup x=some c
 | [],acc,h,x,c,e=>h x c e
 | (n,k)::r,acc,h,x,c,e=>by
  unfold zB7 at e;refine zGc r _ ?_ x c e;intro y d q;cases z:k==.free with
  | false=>rw[z,if_neg qY] at q;exact h y d q
  | true =>
   rw[z,if_pos rfl] at q;cases w:env.cells.lookup n with
   | none=>rw[w] at q;exact h y d q
   | some c' =>
    rw[w] at q;dsimp only at q;rw[lookup_cons] at q;cases b:y==n with
    | true =>
     rw[b] at q;cases q;have:y=n:=by simpa using b
     rw[this];exact w
    | false=>rw[b] at q;exact h y d q
theorem zE8 :∀ (names:List (Str×NameKind)) (acc:List (Str×Addr)),(∃ c,acc.lookup x=some c)->∃ c,(zB7 env names acc).lookup x=some c
 | [],acc,h=>h
 | (n,k)::r,acc,h=>by
  unfold zB7;refine zE8 r _ ?_;cases z:k==.free with
  | false=>rw[if_neg qY];exact h
  | true =>
   rw[if_pos rfl];cases w:env.cells.lookup n with
   | none=>exact h
   | some c' =>
    dsimp only;rw[lookup_cons];cases b:x==n with
    | true=>exact⟨_,rfl⟩
    | false=>exact h
theorem zEa :∀ (names:List (Str×NameKind)) (acc:List (Str×Addr)),(x,NameKind.free)∈names->(∃ c,env.cells.lookup x=some c)->∃ c,(zB7 env names acc).lookup x=some c
 | (n,k)::r,acc,hm,hc=>by
  unfold zB7;rcases mem_cons.mp hm with e | hm
  .cases e;obtain⟨c,hc⟩:=hc;refine zE8 r _ ?_;rw[show (NameKind.free==NameKind.free)=true from rfl,if_pos rfl,hc];exact⟨c,by rw[lookup_cons];simp⟩
  .exact zEa r _ hm hc
theorem zE7 :∀ (names:List (Str×NameKind)) (acc:List (Str×Addr)) (c:Addr),(zB7 env names acc).lookup x=some c->(x,NameKind.free)∈names\/∃ c,acc.lookup x=some c
 | [],acc,c,h=>.inr ⟨c,h⟩
 | (n,k)::r,acc,c,h=>by
  unfold zB7 at h;rcases zE7 r _ c h with q | ⟨d,q⟩
  .exact .inl (qJ _ q)
  .cases z:k==.free with
   | false=>rw[z,if_neg qY] at q;exact .inr ⟨d,q⟩
   | true =>
    rw[z,if_pos rfl] at q;cases w:env.cells.lookup n with
    | none=>rw[w] at q;exact .inr ⟨d,q⟩
    | some c' =>
     rw[w] at q;dsimp only at q;rw[lookup_cons] at q;cases b:x==n with
     | true =>
      have e1:x=n:=by simpa using b
      have e2:k=.free:=by simpa using z
      subst e1 e2;exact .inl q8
     | false=>rw[b] at q;exact .inr ⟨d,q⟩
theorem zCK :∀ (names:List (Str×NameKind)) (n:Nat) (acc:List (Str×Addr)) (c:Addr),(cellsFrom n names acc).lookup x=some c->((x,NameKind.cell)∈names/\n<=c)\/acc.lookup x=some c
 | [],n,acc,c,h=>.inr h
 | (y,k)::r,n,acc,c,h=>by
  unfold cellsFrom at h;cases z:k==.cell with
  | false =>
   rw[z,if_neg qY] at h;rcases zCK r n acc c h with ⟨q1,q2⟩ | q
   .exact .inl ⟨qJ _ q1,q2⟩
   .exact .inr q
  | true =>
   rw[z,if_pos rfl] at h;rcases zCK r (n+1) _ c h with ⟨q1,q2⟩ | q
   .exact .inl ⟨qJ _ q1,by omega⟩
   .rw [lookup_cons] at q;cases b:x==y with
    | true =>
     rw[b] at q;cases q;have e1:x=y:=by simpa using b
     have e2:k=.cell:=by simpa using z
     subst e1 e2;exact .inl ⟨q8,le_refl _⟩
    | false=>rw[b] at q;exact .inr q
section
variable {M:Model}{A:Around}{E:Value->Shared->Prop}{s:Shared}
theorem zEH 
  (hQ:Q (newEnv scope s.heap.objs.size globals (cellsFrom (s.heap.objs.size+1) scope.names cl) qual none .none (some outer) builtinsNs) { s with heap:=pushCells (s.heap.push { cls:=.type "dict",data:=.dict #[] }) scope.names }) :
  wpAny M A (newFunctionEnv scope globals cl [] qual none .none (some outer)) Q E s:=by
 simp only[newFunctionEnv,Option.isSome_some,if_true];refine qX (wpAny_alloc ?_);refine qX (wpAny_layCells _ (λname kind cells=>by cases hkc:kind==NameKind.cell<;>simp[hkc]) _ _ _ _ ?_);rw[show ({ s with heap:=s.heap.push { cls:=.type "dict",data:=.dict #[] } }:Shared).heap.objs.size=s.heap.objs.size+1 from Heap.size_push ..];refine qX ?_;rw[forIn_nil];exact q9 (q9 hQ)
end
section
variable {prog:Program}{w:World}{A:Around}{R:Result->Shared->Prop}{s:Shared}
abbrev NB (prog:Program) (w:World) (A:Around) (env:Env) (R:Result->Shared->Prop):Value->Shared->Prop:=notedBy (model prog w) A env λe s'=>R (.error e) s'
theorem zDm (I:Nat->Shared->Prop)
  (turn:∀ n s,I n s->wpAny (model prog w) A (pyNext it) (λr O2=>match r with
   | none=>R (.ok .next) O2
   | some v=>wpAny (model prog w) A (letOwnedTupleGo target it v) (λ_ s1'=>wpAny (model prog w) A (assign target env v) (λ_ O9 =>
     wpAny (model prog w) A (forIn ifs true λc r=>if r=true then do let ok<-isTrue c env (eval c env);pure (ForInStep.yield ok) else pure (ForInStep.yield r)) (λok Y2 =>
      if ok=true then wpAny (model prog w) A (eval elt env) (λx Y5 =>
       wpAny (model prog w) A (call (.builtin "list.append") [acc,x]) (λ_ Z6=>∃ m,m < n/\I m Z6) (NB prog w A env R) Y5) (NB prog w A env R) Y2
      else ∃ m,m < n/\I m Y2) (NB prog w A env R) O9) (NB prog w A env R) s1') (NB prog w A env R) O2) (NB prog w A env R) s)
  (n:Nat) (h:I n s) :
  codeAny (model prog w) A (.compLoop (.ListComp elt [⟨target,iter,ifs,0⟩] scope pos) 0 it acc env) R s:=by
 refine codeAny_loop rfl I (λn s hI=>?_) n h;show wpAny _ A ((compTurn (.ListComp elt [⟨target,iter,ifs,0⟩] scope pos) 0 it acc env).onRaise (λx=>do noteFrame x env;theTreesLotGoes x)) _ _ s;refine wpAny_noted ?_;rw[compTurn_list];refine qX (wpAny_standAt (qX (wpAny_mono (turn n s hI) (λr O2 O7=>?_) λ_ _ h'=>h')));cases r with
 | none=>exact q9 O7
 | some v =>
  refine qX (wpAny_mono O7 (λ_ s1' Z9=>?_) λ_ _ h'=>h');refine qX (wpAny_mono Z9 (λ_ O9 Y6=>qX (wpAny_mono Y6 (λok Y2 Y7=>?_) λ_ _ h'=>h')) λ_ _ h'=>h');cases ok with
  | false=>exact q9 ⟨rfl,Y7⟩
  | true =>
   exact qX (qX (wpAny_mono Y7 (λx Y5 U2=>qX (wpAny_mono U2 (λ_ Z6 U3=>q9 (q9 ⟨rfl,U3⟩)) λ_ _ h'=>h')) λ_ _ h'=>h'))
end
end DL
end
section
namespace DL
open PySem Spec PyProof.Rows L2
noncomputable def relS (sc scope:Scope):Scope :=
 { scope with names:=scope.names.map λ(n,k)=>if (k==.free&&sc.kind==.function&&sc.names.lookup n==some .cell) then (n,.cell) else (n,k) }
theorem zDX {names:List (Str×NameKind)}:names.lookup x=some k->(x,k)∈names:=λh=>PySem.mem_of_lookup h
theorem zCj:∀ {names:List (Str×NameKind)} {x:Str} {k:NameKind},(names.map (·.1)).Nodup->(x,k)∈names->names.lookup x=some k
 | (y,j)::r,x,k,nd,hm=>by
  rw[map_cons,nodup_cons] at nd;rw[lookup_cons];rcases mem_cons.mp hm with e | hm2
  .cases e;simp
  .have ne:(x==y)=false:=by
    cases b:x==y with
    | false=>rfl
    | true =>
     have e1:x=y:=by simpa using b
     exact absurd (show y∈r.map (·.1) from mem_map.mpr ⟨(x,k),hm2,e1⟩) nd.1
   rw[ne];exact zCj nd.2 hm2
theorem zCk {sc:Scope}:∀ (names:List (Str×NameKind)) (x:Str),(names.map λ(n,k)=>if (k==NameKind.free&&sc.kind==.function&&sc.names.lookup n==some .cell) then (n,NameKind.cell) else (n,k)).lookup x =
  (names.lookup x).map λk=>if (k==NameKind.free&&sc.kind==.function&&sc.names.lookup x==some .cell) then NameKind.cell else k
 | [],x=>rfl
 | (n,k)::r,x=>by
  rw[map_cons,lookup_cons];have ih:=zCk (sc:=sc) r x;cases b:x==n with
  | true =>
   have e1:x=n:=by simpa using b
   subst e1;dsimp only;by_cases c:(k==NameKind.free&&sc.kind==.function&&sc.names.lookup x==some .cell)=true
   .rw [if_pos c,lookup_cons];simp only[beq_self_eq_true,Option.map_some,if_pos c]
   .rw [if_neg c,lookup_cons];simp only[beq_self_eq_true,Option.map_some,if_neg c]
  | false =>
   dsimp only;by_cases c:(k==NameKind.free&&sc.kind==.function&&sc.names.lookup n==some .cell)=true
   .rw [if_pos c,lookup_cons,b];exact ih
   .rw [if_neg c,lookup_cons,b];exact ih
noncomputable def ownB (scope:Scope)(y:Str):Bool:=match scope.names.lookup y with
 | some .local=>true
 | some .cell=>true
 | _=>false
structure zCg (sc scope:Scope):Prop where
 kind:scope.kind=.function
 nd:(scope.names.map (·.1)).Nodup
 fr:∀ x∈scope.names,x.2=.free->sc.names.lookup x.1=some .cell\/sc.names.lookup x.1=some .free
theorem zCI:∀ (names:List (Str×NameKind)) (n:Nat) (acc:List (Str×Addr)),(∀ x y c,acc.lookup x=some c->acc.lookup y=some c->x=y)->(∀ x c,acc.lookup x=some c->c < n)->∀ x y c,(cellsFrom n names acc).lookup x=some c->(cellsFrom n names acc).lookup y=some c->x=y
 | [],n,acc,h1,_,x,y,c,e1,e2=>h1 x y c e1 e2
 | (z,k)::r,n,acc,h1,h2,x,y,c,e1,e2=>by
  unfold cellsFrom at e1 e2;cases b:k==.cell with
  | false =>
   rw[b,if_neg qY] at e1 e2;exact zCI r n acc h1 h2 x y c e1 e2
  | true =>
   rw[b,if_pos rfl] at e1 e2;refine zCI r (n+1) _ ?_ ?_ x y c e1 e2
   .intro x y c q1 q2;rw[lookup_cons] at q1 q2;cases b1:x==z with
    | true =>
     cases b2:y==z with
     | true =>
      have e3:x=z:=by simpa using b1
      have e4:y=z:=by simpa using b2
      rw[e3,e4]
     | false =>
      rw[b1] at q1;rw[b2] at q2;cases q1;exact absurd (h2 y _ q2) (lt_irrefl _)
    | false =>
     cases b2:y==z with
     | true =>
      rw[b1] at q1;rw[b2] at q2;cases q2;exact absurd (h2 x _ q1) (lt_irrefl _)
     | false =>
      rw[b1] at q1;rw[b2] at q2;exact h1 x y c q1 q2
   .intro x c q1;rw[lookup_cons] at q1;cases b1:x==z with
    | true=>rw[b1] at q1;cases q1;exact Nat.lt_succ_self _
    | false=>rw[b1] at q1;exact Nat.lt_succ_of_lt (h2 x c q1)
theorem zBD :∀ (names:List (Str×NameKind)) (n:Nat) (acc:List (Str×Addr)),(∃ c,acc.lookup x=some c)->∃ c,(cellsFrom n names acc).lookup x=some c
 | [],n,acc,h=>h
 | (z,k)::r,n,acc,h=>by
  unfold cellsFrom;cases b:k==.cell with
  | false=>rw[if_neg qY];exact zBD r n acc h
  | true =>
   rw[if_pos rfl];refine zBD r (n+1) _ ?_;rw[lookup_cons];cases b1:x==z with
   | true=>exact⟨_,rfl⟩
   | false=>exact h
theorem zCJ :∀ (names:List (Str×NameKind)) (n:Nat) (acc:List (Str×Addr)),(x,NameKind.cell)∈names->∃ c,(cellsFrom n names acc).lookup x=some c
 | (z,k)::r,n,acc,hm=>by
  unfold cellsFrom;rcases mem_cons.mp hm with e | hm
  .cases e;rw[show (NameKind.cell==NameKind.cell)=true from rfl,if_pos rfl];exact zBD r (n+1) _ ⟨n,by rw[lookup_cons];simp⟩
  .cases b:k==.cell with
   | false=>rw[if_neg qY];exact zCJ r n acc hm
   | true=>rw[if_pos rfl];exact zCJ r (n+1) _ hm
theorem zAk:∀ (names:List (Str×NameKind)) (h:Heap) (b:Addr) (o:Obj),h.get? b=some o->(pushCells h names).get? b=some o
 | [],h,b,o,e=>e
 | (z,k)::r,h,b,o,e=>by
  unfold pushCells;cases c:k==.cell with
  | false=>rw[if_neg qY];exact zAk r h b o e
  | true=>rw[if_pos rfl];exact zAk r _ b o (get?_push_of_some _ e)
theorem zBy:∀ (names:List (Str×NameKind)) (h:Heap) (acc:List (Str×Addr)),(∀ x c,acc.lookup x=some c->∃ v,h.IsCell c v)->∀ x c,(cellsFrom h.objs.size names acc).lookup x=some c->∃ v,(pushCells h names).IsCell c v
 | [],h,acc,q,x,c,e=>q x c e
 | (z,k)::r,h,acc,q,x,c,e=>by
  unfold cellsFrom at e;unfold pushCells;cases b:k==.cell with
  | false =>
   rw[b,if_neg qY] at e;rw[if_neg qY];exact zBy r h acc q x c e
  | true =>
   rw[b,if_pos rfl] at e;rw[if_pos rfl];have es:(h.push { cls:=.type "cell",data:=.cell none }).objs.size=h.objs.size+1:=Heap.size_push ..;rw[<- es] at e;refine zBy r (h.push { cls:=.type "cell",data:=.cell none }) ((z,h.objs.size)::acc) ?_ x c e;intro y d p;rw[lookup_cons] at p;cases b1:y==z with
   | true =>
    rw[b1] at p;cases p;exact⟨none,_,get?_push_size _ rfl,rfl⟩
   | false =>
    rw[b1] at p;obtain⟨v,o,ho,hd⟩:=q y d p;exact⟨v,o,get?_push_of_some _ ho,hd⟩
def zBf (scope:Scope)(X:Cx)(s:Shared):Env :=
 { newEnv scope s.heap.objs.size X.env.globals (cellsFrom (s.heap.objs.size+1) scope.names (zB7 X.env scope.names [])) X.env.qual none .none (some X.env) builtinsNs with scope:=relabel scope X.env }
def zAV (X:Cx)(N:List Str)(scope:Scope)(s:Shared)(H:Hp)(fp:List Addr):Cx :=
 { X with N:=N,s0:=s,Y3:=H,env:=zBf scope X s,outer:=X.stack,stack:=X.stack,ex:=fp,fn:=ownB scope,pn:=[],xe:=λ_ _=>False }
section
variable {X:Cx}{pins:List (Addr×Obj)}{B σc:St}{H:Hp}{s:Shared}{fp:List Addr}{scope:Scope}{N:List Str}
theorem zEZ (I:Inv X pins B H s)(cs:zCg X.env.scope scope):∀ x∈scope.names,x.2=.free->∃ c,X.env.cells.lookup x.1=some c:=λx hx hf =>
 I.ok.has x.1 (cs.fr x hx hf)
theorem zHx (I:Inv X pins B H s)(hf:∀ b∈fp,FpOk X pins H b/\∃ o,s.heap.get? b=some o)(cs:zCg X.env.scope scope)
  (Z2:∀ (i:Nat) (x:Str) (v:V),N[i]?=some x->σc[i]?=some (some v)->Vis (relS X.env.scope scope) x->scope.names.lookup x=some .free/\∃ j:Nat,X.N[j]?=some x/\B[j]?=some (some v)) (hlen:σc.length=N.length) :
  Inv (zAV X N scope s H fp) [] σc H { s with heap:=pushCells (s.heap.push { cls:=.type "dict",data:=.dict #[] }) scope.names }:=by
 have kp:∀ b o,s.heap.get? b=some o->(pushCells (s.heap.push { cls:=.type "dict",data:=.dict #[] }) scope.names).get? b=some o:=λb o e=>zAk _ _ b o (get?_push_of_some _ e)
 have cl_env:∀ x c,(zB7 X.env scope.names []).lookup x=some c->X.env.cells.lookup x=some c:=λx c e=>zGc scope.names [] (λ_ _ q=>by simp at q) x c e
 have cl_lt:∀ x c,(zB7 X.env scope.names []).lookup x=some c->c < s.heap.objs.size:=λx c e=>by
  obtain⟨v,q⟩:=I.cell x c (cl_env x c e);exact q.lt
 have cells:∀ x c,(zBf scope X s).cells.lookup x=some c->((x,NameKind.cell)∈scope.names/\s.heap.objs.size+1<=c)\/(zB7 X.env scope.names []).lookup x=some c:=λx c e=>zCK scope.names _ _ c e
 have kd:∀ x,(zBf scope X s).kindOf x=(scope.names.lookup x).map λk=>if (k==NameKind.free&&X.env.scope.kind==.function&&X.env.scope.names.lookup x==some .cell) then NameKind.cell else k:=λx=>zCk (sc:=X.env.scope) scope.names x
 have hes:(s.heap.push { cls:=.type "dict",data:=.dict #[] }).objs.size=s.heap.objs.size+1:=Heap.size_push ..;refine⟨⟨I.ok.mod,cs.kind,I.ok.glob,I.ok.blt,le_refl _,λx y c h1 h2=>?_,λx hx=>?_,λx c hx h=>?_,I.ok.hd,I.ok.frames,.inl rfl,λb hb=>⟨?_,λx c h z=>?_⟩,λb o e=>I.bs b o e,le_trans I.ok.bsz I.sz,λb o e hb=>?_,λb hb z=>?_,I.stack,I.stkFree,I.ok.pyl,I.tabs⟩,
  rfl,I.bare,Un.kept kp,⟨λ_=>none,?_,λi x v h1 h2 h3=>?_⟩,λx c h=>?_,I.hok.fresh (le_refl _),λx c h=>?_,λp hp=>absurd (show p∈([]:List (Addr×Obj)) from hp) (by simp),I.hok.kept kp,hlen⟩
 .exact zCI scope.names _ _ (λx y c q1 q2=>I.ok.inj x y c (cl_env x c q1) (cl_env y c q2)) (λx c q=>Nat.lt_succ_of_lt (cl_lt x c q)) x y c h1 h2
 .replace hx:(zBf scope X s).kindOf x=some .cell\/(zBf scope X s).kindOf x=some .free:=hx;rw[kd x] at hx;cases q:scope.names.lookup x with
  | none=>rw[q] at hx;simp at hx
  | some k =>
   rw[q] at hx;by_cases kf:k=.free
   .subst kf;have hm:=zDX q;exact zBD scope.names _ _ (zEa scope.names [] hm (zEZ I cs _ hm rfl))
   .have e1:(k==NameKind.free)=false:=by simpa using kf
    simp only[e1,Bool.false_and,Option.map_some,Bool.false_eq_true,if_false] at hx;rcases hx with hx | hx
    .cases hx;exact zCJ scope.names _ _ (zDX q)
    .cases hx;exact absurd rfl kf
 .rcases cells x c h with ⟨_,q⟩ | q
  .exact le_trans (Nat.le_succ _) q
  .rcases zE7 scope.names [] c q with hm | ⟨d,hm⟩
   .have e1:=zCj cs.nd hm;have hx':ownB scope x=true:=hx;unfold ownB at hx';rw[e1] at hx';cases hx'
   .simp at hm
 .obtain ⟨_,o,e⟩:=hf b hb;exact ne_of_lt (lt_size e)
 .obtain ⟨⟨f0,f1,f2,f3,f4,f5⟩,o,e⟩:=hf b hb;rcases cells x c h with ⟨_,q⟩ | q
  .have:=lt_size e;rw[z] at q;exact absurd (xQ (Nat.lt_succ_of_lt this) q) (lt_irrefl _)
  .exact f4 x c (cl_env x c q) z
 .obtain ⟨⟨f0,f1,f2,f3,f4,f5⟩,_⟩:=hf b hb;rcases f3 with f3 | f3
  .exact I.ok.noex b o e f3
  .exact absurd (xQ (lt_size e) (le_trans I.ok.bsz f3)) (lt_irrefl _)
 .obtain ⟨⟨f0,f1,f2,f3,f4,f5⟩,_⟩:=hf b hb;rcases mem_cons.mp (I.stkSub b z) with q | q
  .exact f1 q
  .exact f2 q
 .exact (Heap.Ns.new s.heap (.type "dict")).keeps (zAk _ _)
 .obtain ⟨q1,j,q2,q3⟩:=Z2 i x v h1 h2 h3;have hm:=zDX q1;have hv:=cs.fr _ hm rfl;obtain⟨m,hn,hl⟩:=I.loc;obtain⟨u,ru,lk⟩:=hl j x v q2 q3 (hv.elim (λe=>.inr (.inl e)) λe=>.inr (.inr e));refine⟨u,ru,.inr ⟨?_,?_⟩⟩
  .show (zBf scope X s).kindOf x=_\/(zBf scope X s).kindOf x=_;rw[kd x,q1];dsimp only[Option.map_some];split
   .exact .inl rfl
   .exact .inr rfl
  .rcases lk with ⟨k1,_⟩ | ⟨_,c,k2,k3⟩
   .have k1':X.env.scope.names.lookup x=some .local:=k1;rcases hv with hv | hv
    .rw [k1'] at hv;cases hv
    .rw [k1'] at hv;cases hv
   .obtain ⟨c',e'⟩:=zBD scope.names (s.heap.objs.size+1) _ (zEa (env:=X.env) scope.names [] hm ⟨c,k2⟩);refine⟨c',e',?_⟩;rcases cells x c' e' with ⟨z,_⟩ | z
    .have:=zCj cs.nd z;rw[q1] at this;cases this
    .have:=cl_env x c' z;rw[k2] at this;cases this;exact k3.keeps kp
 .have e':(cellsFrom (s.heap.push { cls:=.type "dict",data:=.dict #[] }).objs.size scope.names (zB7 X.env scope.names [])).lookup x=some c:=by rw[hes];exact h
  exact zBy scope.names _ _ (λy d q=>by
   obtain⟨v,w⟩:=I.cell y d (cl_env y d q);exact⟨v,w.keeps λb o e=>get?_push_of_some _ e⟩) x c e'
 .rcases cells x c h with ⟨_,q⟩ | q
  .exact I.hok.fresh (le_trans (Nat.le_succ _) q)
  .exact I.freeC x c (cl_env x c q)
end
abbrev noN:Str := ""
noncomputable def mask {U:Type}(z:U):List Nat->List U->List U
 | [],l=>l
 | m::ms,l=>mask z ms (l.set m z)
theorem zA0 {U:Type}(z:U):∀ (ms:List Nat) (l:List U),(mask z ms l).length=l.length
 | [],l=>rfl
 | m::ms,l=>by unfold mask;rw[zA0 z ms,length_set]
theorem zBJ {U:Type}{z y:U}{i:Nat}:∀ {ms:List Nat} {l:List U},(mask z ms l)[i]?=some y->(y=z/\i∈ms)\/(l[i]?=some y/\i∉ms)
 | [],l,h=>.inr ⟨h,by simp⟩
 | m::ms,l,h=>by
  unfold mask at h;rcases zBJ h with ⟨e,hm⟩ | ⟨e,hm⟩
  .exact .inl ⟨e,qJ _ hm⟩
  .rcases zAZ e with ⟨e1,e2,_⟩ | ⟨ne,e1⟩
   .exact .inl ⟨e2,by rw[<- e1];exact q8⟩
   .exact .inr ⟨e1,λz=>(mem_cons.mp z).elim (λq=>ne q.symm) hm⟩
theorem zFZ {U:Type}{z:U}{i:Nat}:∀ {ms:List Nat} {l:List U},i∉ms->(mask z ms l)[i]?=l[i]?
 | [],l,_=>rfl
 | m::ms,l,h=>by
  unfold mask;rw[zFZ λq=>h (qJ _ q),getElem?_set_ne λq=>h (by rw[q];exact q8)]
theorem zBu {U:Type}{l:List (Option U)}{k i:Nat}{y:U}(h:(l++List.replicate k none)[i]?=some (some y)):l[i]?=some (some y)/\i < l.length:=by
 by_cases hi:i < l.length
 .rw [getElem?_append_left hi] at h;exact⟨h,hi⟩
 .rw [getElem?_append_right (by omega),getElem?_replicate] at h;split at h<;>cases h
theorem DS.ext {K:W.Frag}(h:DS K H S B G)(ms:List Nat)(k:Nat):DS K H S (mask none ms B++List.replicate k none) (mask none ms G++List.replicate k none):=by
 refine⟨by rw[qQ,qQ,zA0,zA0,h.len,length_replicate,length_replicate],h.sok,λi d o q=>?_,λi j d e a q1 q2 q3 q4=>?_⟩
 .obtain ⟨q,hi⟩:=zBu q;rcases zBJ q with ⟨z,_⟩ | ⟨q,ni⟩
  .cases z
  .obtain ⟨v,w1,w2⟩:=h.get i d o q;exact⟨v,by rw[getElem?_append_left (by rw[zA0] at hi ⊢;rw[h.len];exact hi),zFZ ni];exact w1,w2⟩
 .obtain ⟨q1,_⟩:=zBu q1;obtain⟨q2,_⟩:=zBu q2;obtain⟨q3,_⟩:=zBu q3;obtain⟨q4,_⟩:=zBu q4;rcases zBJ q1 with ⟨z,_⟩ | ⟨q1,_⟩
  .cases z
  rcases zBJ q2 with ⟨z,_⟩ | ⟨q2,_⟩
  .cases z
  rcases zBJ q3 with ⟨z,_⟩ | ⟨q3,_⟩
  .cases z
  rcases zBJ q4 with ⟨z,_⟩ | ⟨q4,_⟩
  .cases z
  exact h.inj i j d e a q1 q2 q3 q4
def zBn (t:D->Dst->Option Dst)(c:Dst->Option Bool)(e:Dst->Option R):List D->Dst->Option (List D)
 | [],_=>some []
 | x::xs,G=>(t x G).bind λO5=>(c O5).bind λb=>if b=true then (e O5).bind λr=>if r.2=.dt then none else (zBn t c e xs O5).bind λys=>some (r.1::ys) else zBn t c e xs O5
def zI0 (ms:List Nat)(k:Nat)(f:Dst->Option (List D))(t:D->Dst->Option Dst)(c:Dst->Option Bool)(e:Dst->Option R):Dst->Option R:=λG =>
 (f G).bind λzs=>if zs.length<=10000 then (zBn t c e zs (mask none ms G++List.replicate k none)).bind λys=>some (.lst ys,.fr) else none
def GCs (X:Cx)(ifs:List Expr)(c:Dst->Option Bool):Prop:=∀ (pins:List (Addr×Obj)) (s:Shared) (B:St) (H:Hp) (Q:Bool->Hp->Prop),Inv X pins B H s->gB X.K c B H Q ->
 wpAny (model X.prog X.w) X.A (forIn ifs true λc r=>if r=true then do let ok<-isTrue c X.env (eval c X.env);pure (ForInStep.yield ok) else pure (ForInStep.yield r)) (TP X pins B Q) X.xe s
section
variable {X:Cx}
theorem zQN:GCs X [] (λ_=>some true):=λpins s B H Q I zy131=>by obtain⟨S,G,b,ds,e,c⟩:=zy131;exact wpAny_tests_nil ⟨H,I,by cases e;exact c H (Same.refl _)⟩
theorem zQM (h:GT X a c):GCs X [a] c:=λpins s B H Q I q=>wpAny_tests_one (h pins s B H Q I q)
theorem zGZ {tg iter elt:Expr}{ifs:List Expr}{scope:Scope}{pos:Pos}{ms:List Nat}{xs:List Str}{f:Dst->Option (List D)}{t:D->Dst->Option Dst}{c:Dst->Option Bool}{e:Dst->Option R}(hcalm:X.calm=true)(hi:GI X tg iter f)(cs:zCg X.env.scope scope)
  (hm:∀ (i:Nat) x,X.N[i]?=some x->ownB scope x=true->i∈ms)
  (hg:∀ s H fp,GG (zAV X (mask noN ms X.N++xs) scope s H fp) tg t)
  (hc:∀ s H fp,GCs (zAV X (mask noN ms X.N++xs) scope s H fp) ifs c) (he:∀ s H fp,GE (zAV X (mask noN ms X.N++xs) scope s H fp) elt e)
  {pins:List (Addr×Obj)} {s:Shared} {B:St} {H:Hp} {S:List Addr} {G:Dst} {zs ys:List D} (I:Inv X pins B H s) (ds:DS X.K H S B G) (ez:f G=some zs) (hz:zs.length<=10000) (ey:zBn t c e zs (mask none ms G++List.replicate xs.length none)=some ys)
  {RR:Value->Addr->Result->Shared->Prop}
  (fin:∀ (D C:Addr) (s1:Shared) (H'':Hp) (m:Str->Option Value),s1.heap.Ns C m->(∀ h',Heap.SameBut C s1.heap h'->Inv X pins B H'' { s1 with heap:=h' })->H'' C=none->C≠X.env.locals->C∉X.fs->X.s0.heap.objs.size<=C ->
   (∀ x c,X.env.cells.lookup x=some c->c≠C)->(∀ p∈X.pn++pins,p.1≠C)->Same H H''->RV X.K H H'' S (.lst ys,.fr) (.ref D)->RR (.ref D) C (.ok .next) s1) :
  wpAny (model X.prog X.w) X.A (eval iter X.env) (λx O2=>wpAny (model X.prog X.w) X.A (pyIter x) (λit O9=>wpAny (model X.prog X.w) X.A (newList []) (λacc Y2 =>
   wpAny (model X.prog X.w) X.A (newFunctionEnv scope X.env.globals (zB7 X.env scope.names []) [] X.env.qual none .none (some X.env)) (λcenv Y5 =>
    codeAny (model X.prog X.w) X.A (.compStart (.ListComp elt [⟨tg,iter,ifs,0⟩] scope pos) 0 it acc { cenv with scope:=relabel scope X.env }) (RR acc cenv.locals) Y5) X.xe Y2) X.xe O9) X.xe O2) X.xe s:=by
 obtain⟨wi,hwi,hI⟩:=hi;refine thn (hwi pins s B H (λJ H1=>Same H H1/\∀ (i:Nat) H2,i<=zs.length->Same (hide H1 S) H2->(i=zs.length->J.stop i H2)/\(i < zs.length->J.go i H2/\∀ v H3,J.yld i H2 v H3->H3=H2/\∀ x,zs[i]?=some x->Den X.K (hide H1 S) x v)) I (hI B H S G zs _ ds ez λJ H1 s1 hJ=>⟨s1,hJ⟩)) λv s1 h1=>thn h1 λitv s2 h2=>?_
 obtain⟨it,fp,tn,J,H2,rfl,I2,T,st2,f2,s12,hJ⟩:=h2;refine wpAny_newObj_type (zEH ?_);have e3:∃ s3:Shared,s3={ s2 with heap:=s2.heap.push { cls:=.type "list",dict:=none,data:=.seq ([]:List Value).toArray } }:=⟨_,rfl⟩;obtain⟨s3,hs3⟩:=e3;rw[<- hs3];have eD:∃ D,D=s2.heap.objs.size:=⟨_,rfl⟩;obtain⟨D,hD⟩:=eD;rw[<- hD];have hC:s3.heap.objs.size=D+1:=by rw[hs3,hD];exact Heap.size_push ..
 have k23:∀ b o,s2.heap.get? b=some o->s3.heap.get? b=some o:=λb o q=>by rw[hs3];exact get?_push_of_some _ q
 have I3:Inv X pins B H2 s3:=by rw[hs3];exact I2.kept (t':=s2.toks) λb o q=>get?_push_of_some _ q
 have oD:s3.heap.get? D=some { cls:=.type "list",data:=.seq ([]:List Value).toArray }:=by rw[hs3,hD];exact get?_push_size _ rfl
 have H2D:H2 D=none:=by rw[hD];exact I2.hok.fresh (le_refl _)
 have fplt:∀ b∈fp,b < D:=λb hb=>by
  obtain⟨o,q,_⟩:=T.obj _ _ st2 b hb;rw[hD];exact lt_size q
 have hfD:∀ b∈D::fp,FpOk X pins H2 b/\∃ o,s3.heap.get? b=some o:=λb hb=>by
  rcases mem_cons.mp hb with rfl | hb
  .exact ⟨I2.fpOk (by rw[hD];exact le_refl _) H2D,_,oD⟩
  .obtain ⟨o,q,_⟩:=T.obj _ _ st2 b hb;exact⟨f2 b hb,o,k23 b o q⟩
 have lenN:(mask none ms B++List.replicate xs.length none).length=(mask noN ms X.N++xs).length:=by
  rw[qQ,qQ,zA0,zA0,length_replicate,I.len]
 have Ic:=zHx (fp:=D::fp) (N:=mask noN ms X.N++xs) (σc:=mask none ms B++List.replicate xs.length none) I3 hfD cs (λi x v q1 q2 q3=>by
  obtain⟨q2,hi2⟩:=zBu q2;rcases zBJ q2 with ⟨z,_⟩ | ⟨q2,ni⟩
  .cases z
  have hiN:i < (mask noN ms X.N).length:=by rw[zA0] at hi2 ⊢;rw[<- I.len];exact hi2
  rw[getElem?_append_left hiN] at q1;rcases zBJ q1 with ⟨_,z⟩ | ⟨q1,_⟩
  .exact absurd z ni
  refine⟨?_,i,q1,q2⟩;have no:ownB scope x=false:=by
   cases b:ownB scope x with
   | false=>rfl
   | true=>exact absurd (hm i x q1 b) ni
  unfold Vis relS at q3;rw[zCk] at q3;unfold ownB at no;cases w:scope.names.lookup x with
  | none=>rw[w] at q3;simp at q3
  | some k =>
   rw[w] at no;cases k with
   | free=>rfl
   | «local»=>cases no
   | cell=>cases no
   | _=>rw[w] at q3;simp at q3) lenN
 have st4:tn 0 (pushCells (s3.heap.push { cls:=.type "dict",data:=.dict #[] }) scope.names):=T.keep 0 _ _ st2 λb hb o q=>zAk _ _ b o (get?_push_of_some _ (k23 b o q))
 have loop:codeAny (model X.prog X.w) X.A (.compLoop (.ListComp elt [⟨tg,iter,ifs,0⟩] scope pos) 0 (.ref it) (.ref D) (zBf scope X s3)) (RR (.ref D) s3.heap.objs.size) { s3 with heap:=pushCells (s3.heap.push { cls:=.type "dict",data:=.dict #[] }) scope.names }:=by
  refine zDm (λn s'=>∃ (i:Nat) (B':St) (H':Hp) (G':Dst) (done more:List DL.D) (vs:List V) (its:List Value),Inv (zAV X (mask noN ms X.N++xs) scope s3 H2 (D::fp)) [] B' H' s'/\tn i s'.heap/\(∀ b∈D::fp,H' b=none)/\s'.heap.PlainList D its.toArray/\Vals vs its/\DS X.K H' S B' G' /\
   Same H2 H'/\DenL X.K (hide H' S) done vs/\zBn t c e (zs.drop i) G'=some more/\done++more=ys/\i<=zs.length/\done.length<=i/\n=zs.length - i) ?_ zs.length
   ⟨0,_,H2,_,[],ys,[],[],Ic,st4,λb hb=>(hfD b hb).1.1,⟨_,zAk _ _ D _ (get?_push_of_some _ oD)⟩,.nil,(ds.mono s12).ext ms xs.length,Same.refl _,.nil,by rw[List.drop_zero];exact ey,rfl,zero_le _,le_refl _,by simp⟩
  rintro n s' ⟨i,B',H',G',done,more,vs,its,Ic',st',fr',⟨nD,pl⟩,rv,ds',sm,dn,ec,ed,hi',hl',rfl⟩;have lenv:its.length<=zs.length:=by rw[<- rv.length,<- dn.length];exact le_trans hl' hi'
  obtain⟨j1,j2⟩:=hJ i H' hi' (zAq.trans sm);have fpc:∀ {b:Addr} {pn:List (Addr×Obj)} {Hx:Hp},b∈D::fp->Hx b=none->(∀ p∈pn,p.1≠b)->FpOk (zAV X (mask noN ms X.N++xs) scope s3 H2 (D::fp)) pn Hx b:=λ{b pn Hx} hb hn hp =>
   ⟨hn,(Ic'.ok.exf b hb).1,Ic'.ok.exfs b hb,.inl hb,(Ic'.ok.exf b hb).2,λp hp'=>hp p (show p∈pn from hp')⟩
  have pinD:∀ {p:Addr×Obj} {h:Heap},p∈zBG [D] h->p.1=D:=λ{p h} hp=>by simpa using (zEF hp).1
  have I0:Inv (zAV X (mask noN ms X.N++xs) scope s3 H2 (D::fp)) ([]++zBG [D] s'.heap) B' H' s':=Ic'.pinned (fp:=[D]) (λb hb=>by
   have eb:b=D:=by simpa using hb
   subst eb;exact fpc q8 (fr' _ q8) λp hp=>absurd hp (by simp)) λb hb=>by
   have eb:b=D:=by simpa using hb
   subst eb;exact⟨_,pl,λv z=>by cases z⟩
  have fp0:∀ b∈fp,FpOk (zAV X (mask noN ms X.N++xs) scope s3 H2 (D::fp)) ([]++zBG [D] s'.heap) H' b:=λb hb=>fpc (qJ _ hb) (fr' b (qJ _ hb)) λp hp z=>by
   have q1:=pinD (by simpa using hp);have q2:=fplt b hb;rw[<- z,q1] at q2;exact absurd q2 (lt_irrefl _)
  have memD:(D,_)∈zBG [D] s'.heap:=zBh (by simp) pl;by_cases hlt:i < zs.length
  .obtain ⟨go,yl⟩:=j2 hlt;refine wpAny_mono (T.item (zAV X (mask noN ms X.N++xs) scope s3 H2 (D::fp)) rfl rfl rfl hcalm i ([]++zBG [D] s'.heap) s' B' H' _ I0 fp0 st' go) (λr s4 zz63=>?_) λ_ _ z=>z
   obtain⟨u,hr,h4⟩:=zz63;subst hr;refine wpAny_mono h4 (λ_ s5 zz64=>?_) λ_ _ z=>z
   obtain⟨x,H5,I5,r5,y5,st5,fr5⟩:=zz64;obtain⟨rfl,hv⟩:=yl x H5 y5;have pl5:=(I5.pin (D,_) (xq _ (xq _ memD))).1;have I5':Inv (zAV X (mask noN ms X.N++xs) scope s3 H2 (D::fp)) ([]++zBG (D::fp) s5.heap) B' H5 s5:=I5.unpinned.pinned (fp:=D::fp) (λb hb=>fpc hb (fr' b hb) λp hp=>absurd hp (by simp)) λb hb=>by
    rcases mem_cons.mp hb with rfl | hb
    .exact ⟨_,pl5,λv z=>by cases z⟩
    .exact T.obj _ _ st5 b hb
   have there:∀ {Hx:Hp} {sx:Shared} {Bx:St},Inv (zAV X (mask noN ms X.N++xs) scope s3 H2 (D::fp)) ([]++zBG (D::fp) s5.heap) Bx Hx sx->∀ b∈D::fp,(∀ o,s5.heap.get? b=some o->sx.heap.get? b=some o)/\Hx b=none:=λ{Hx sx Bx} Ix b hb=>by
    have q:∃ o,s5.heap.get? b=some o:=by
     rcases mem_cons.mp hb with rfl | hb
     .exact ⟨_,pl5⟩
     .obtain ⟨o,q,_⟩:=T.obj _ _ st5 b hb;exact⟨o,q⟩
    obtain⟨o,q⟩:=q;have w:=Ix.pin (b,o) (xq _ (xq _ (zBh hb q)));exact⟨λo' q'=>by rw[q] at q';cases q';exact w.1,w.2.1⟩
   rw[drop_eq_getElem_cons hlt] at ec;obtain⟨O5,e1,ec⟩:=bind_some ec;obtain⟨b,eb,ec⟩:=bind_some ec;obtain⟨g,hg1,hg2⟩:=hg s3 H2 (D::fp);have dx:Den X.K (hide H5 S) zs[i] x:=(hv _ (by simp[hlt])).mono (zAU sm);refine wpAny_mono (hg1 _ s5 B' H5 x u _ I5' r5 (hg2 X.K rfl zs[i] x B' H5 S G' O5 (λB6 H6=>H6=H5/\DS X.K H5 S B6 O5) ds' dx e1 λB6 d6=>⟨rfl,d6⟩)) (λ_ s6 zz65=>?_) λ_ _ z=>z.elim
   obtain⟨B6,H6,I6,q6,ds6⟩:=zz65;subst q6;refine wpAny_mono (hc s3 H2 (D::fp) _ s6 B6 H6 (λb' H7=>b'=b/\Same H6 H7) I6 ⟨S,O5,b,ds6,eb,λH7 s7=>⟨rfl,s7⟩⟩) (λok s7 zz66=>?_) λ_ _ z=>z.elim
   obtain⟨H7,I7,q7,s67⟩:=zz66;subst q7;cases ok with
   | false =>
    rw[if_neg qY] at ec;rw[if_neg qY];exact⟨zs.length - (i+1),by omega,i+1,B6,H7,O5,done,more,vs,its,I7.unpinned,T.keep _ _ _ st5 λb hb o q=>(there I7 b (qJ _ hb)).1 o q,λb hb=>(there I7 b hb).2,⟨nD,(there I7 D q8).1 _ pl5⟩,rv,ds6.mono s67,
     sm.trans s67,dn.mono (zAU s67),ec,ed,hlt,Nat.le_succ_of_le hl',rfl⟩
   | true =>
    rw[if_pos rfl] at ec;rw[if_pos rfl];obtain⟨r,er,ec⟩:=bind_some ec;by_cases hr:r.2=.dt
    .rw [if_pos hr] at ec;cases ec
    rw[if_neg hr] at ec;obtain⟨more',em,ec⟩:=bind_some ec;cases ec;refine wpAny_mono (he s3 H2 (D::fp) _ s7 B6 H7 (λv H8=>Same H7 H8/\RV X.K H7 H8 S r v) I7 ⟨S,O5,r,ds6.mono s67,er,λv H8 s8 r8=>⟨s8,r8⟩⟩) (λuv s8 zz67=>?_) λ_ _ z=>z.elim
    obtain⟨v,H8,I8,rv8,s78,r8⟩:=zz67;have pl8:=(there I8 D q8).1 _ pl5;refine wpAny_list_append_plain (hsz:=by rw[xy];exact le_trans lenv (zCs hz)) ⟨nD,pl8⟩ λh9 hl9 hs9=>?_
    have I9:Inv (zAV X (mask noN ms X.N++xs) scope s3 H2 (D::fp)) [] B6 H8 { s8 with heap:=h9 }:=I8.unpinned.turned (it:=D) (t':=s8.toks) (λb o hb q=>hs9.extBut b o hb q) (there I8 D q8).2 (Ic'.ok.exf D q8).1 (.inl q8) (Ic'.ok.exf D q8).2 λp hp=>absurd (show p∈([]:List (Addr×Obj)) from hp) (by simp)
    have hden:=(RV.den (d:=r.1) (k:=r.2) r8 hr);refine⟨zs.length - (i+1),by omega,i+1,B6,H8,O5,done++[r.1],more',vs++[v],its++[uv],I9,T.keep _ _ _ st5 λb hb o q=>hs9.extBut b o (λz=>?_) ((there I8 b (qJ _ hb)).1 o q),λb hb=>(there I8 b hb).2,?_,rv.append (.cons rv8 .nil),ds6.mono (s67.trans s78),
     sm.trans (s67.trans s78),(dn.mono (zAU (s67.trans s78))).append (.cons hden .nil),em,by rw[q0];exact ed,hlt,by rw[qQ,length_singleton];omega,rfl⟩
    .have:=fplt b hb;rw[z] at this;exact absurd this (lt_irrefl _)
    .have ea:its.toArray.push uv=(its++[uv]).toArray:=by simp
     rw[<- ea];exact hl9
  .have ei:i=zs.length:=by omega
   subst ei;refine wpAny_mono (T.done (zAV X (mask noN ms X.N++xs) scope s3 H2 (D::fp)) rfl rfl rfl hcalm _ ([]++zBG [D] s'.heap) s' B' H' _ I0 fp0 st' (j1 rfl)) (λr s4 zz68=>?_) λ_ _ z=>z
   obtain⟨hr,I4⟩:=zz68;subst hr;rw[drop_eq_nil_of_le (le_refl _)] at ec;cases ec;rw[append_nil] at ed;subst ed;obtain⟨m,ns,_⟩:=id I4.loc;have eC:(zAV X (mask noN ms X.N++xs) scope s3 H2 (D::fp)).env.locals=D+1:=hC;rw[eC] at ns;have pl4:=I4.pin (D,_) (xq _ (xq _ memD));have HD:H' D=none:=pl4.2.1;have HC:H' (D+1)=none:=by have:=I4.free;rw[eC] at this;exact this
   have CD:D≠D+1:=ne_of_lt (Nat.lt_succ_self D);have neD:∀ {b:Addr} {o:HO},H' b=some o->b≠D:=λ{b o} q z=>by rw[z,HD] at q;cases q
   have ne2:∀ {b:Addr} {o:HO},H2 b=some o->b≠D:=λ{b o} q z=>by rw[z,H2D] at q;cases q
   have lt2:∀ {b:Addr} {o:Obj},s2.heap.get? b=some o->b < D:=λ{b o} q=>by rw[hD];exact lt_size q
   have outex:∀ {b:Addr} {o:Obj},s2.heap.get? b=some o->b∉fp->b∉D::fp:=λ{b o} q hx z=>(mem_cons.mp z).elim (λz=>absurd (lt2 q) (by rw[z];exact lt_irrefl _)) hx
   have neC:∀ {b:Addr} {o:Obj},s2.heap.get? b=some o->b≠D+1:=λ{b o} q=>ne_of_lt (Nat.lt_succ_of_lt (lt2 q))
   have gt2:s2.heap.objs.size<=D+1:=by rw[<- hD];exact Nat.le_succ _
   show RR (.ref D) s3.heap.objs.size (.ok .next) s4;rw[hC];refine fin D (D+1) s4 (upd H' D (.lst vs)) m ns (λh' sb=>?_) ?_ (Nat.ne_of_gt (xQ I2.lt gt2)) (I2.nofs gt2) (le_trans I2.sz gt2) (λx c q z=>?_) (λp hp z=>?_) ?_ ?_
   .refine I2.call' (s':={ s4 with heap:=h' }) (ch:=fp) ?_ ⟨λb o q n hb hx=>sb.extBut b o (neC q) (I4.base.keep b o (k23 b o q) n hb (outex q hx)),λb o q n hb hx=>?_,λb o q n hx=>?_,λb o q hx=>?_,λb ws q=>?_,λb o w q=>?_,λb ps q=>?_⟩ (λb w q=>?_) I4.bare λb hb=>?_
    .have:=I4.os;rw[hs3] at this;exact this
    .obtain ⟨sl,w⟩:=I4.base.slot b o (k23 b o q) n hb (outex q hx);exact⟨sl,sb.extBut b _ (neC q) w⟩
    .rw [zAP (ne_of_lt (lt2 q))];exact I4.base.free b o (k23 b o q) n (outex q hx)
    .obtain ⟨o',w⟩:=I4.base.there b o (k23 b o q) (outex q hx);exact⟨o',sb.extBut b _ (neC q) w⟩
    .rw [zAP (ne2 q)];exact I4.base.tups b ws q
    .rw [zAP (ne2 q)];exact I4.base.frzs b o w q
    .rw [zAP (ne2 q)];exact I4.base.tbls b ps q
    .by_cases z:b=D
     .subst z;rw[zAh] at q;cases q;exact⟨by rw[rv.length];exact le_trans lenv (zCs hz),its,nD,rv,sb.extBut b _ CD pl4.1⟩
     .rw [zAP z] at q;refine(I4.hok b w q).stay (λd v hd w'=>sb.extBut d v (λz'=>?_) w') (λd w'=>by rw[zAP (neD w')];exact w') (λd ws w'=>by rw[zAP (neD w')];exact w') λd ob u w' _=>by rw[zAP (neD w')];exact w'
      rcases hd with hd | hd
      .rw [<- hd,z',HC] at q;cases q
      .rw [z',HC] at hd;cases hd
    .obtain ⟨f0,f1,f2',f3,f4,f5⟩:=f2 b hb;exact⟨f3,f1,f4,f5⟩
   .rw [zAP (Ne.symm CD)];exact HC
   .obtain ⟨v,w⟩:=I2.cell x c q;have:=w.lt;rw[z,<- hD] at this;exact absurd (Nat.lt_trans this (Nat.lt_succ_self D)) (lt_irrefl _)
   .have:=lt_size (I2.pin p hp).1;rw[z,<- hD] at this;exact absurd (Nat.lt_trans this (Nat.lt_succ_self D)) (lt_irrefl _)
   .exact λb o q=>by
     have w:=sm b o (s12 b o q);rw[zAP (neD w)];exact w
   .refine ⟨D,vs,done,rfl,rfl,λz=>?_,?_,zAh,dn.mono λb o q=>?_⟩
    .obtain ⟨ws,w,_⟩:=(ds.mono s12).sok D z;rw[H2D] at w;cases w
    .exact s12.free H2D
    .obtain ⟨q1,q2⟩:=zA7 q;rw[zAT λz=>(mem_cons.mp z).elim (neD q2) q1,zAP (neD q2)];exact q2
 exact codeAny_compStart_list loop (T.self X.A 0 _ _ _ st4 loop)
theorem zCn (cs:zCg sc scope):∀ x∈scope.names,x.2=.local->scope.names.lookup x.1=some .local:=λx hx e=>by
 have:=zCj (k:=x.2) cs.nd (x:=x.1) hx;rw[this,e]
theorem zKu (hcalm:X.calm=true)(hi:GI X tg iter f)(hs:∀ x,foldedSetIterable iter X.env x=pure x)(cs:zCg X.env.scope scope)
  (hm:∀ (i:Nat) x,X.N[i]?=some x->ownB scope x=true->i∈ms)
  (hg:∀ s H fp,GG (zAV X (mask noN ms X.N++xs) scope s H fp) tg t)
  (hc:∀ s H fp,GCs (zAV X (mask noN ms X.N++xs) scope s H fp) ifs c) (he:∀ s H fp,GE (zAV X (mask noN ms X.N++xs) scope s H fp) elt e) :
  GE X (.ListComp elt [⟨tg,iter,ifs,0⟩] scope pos) (zI0 ms xs.length f t c e):=by
 intro pins s B H Q I ⟨S,G,z,ds,ez,cc⟩;obtain⟨zs,e1,ez⟩:=bind_some ez;by_cases hz:zs.length<=10000
 .rw [if_pos hz] at ez;obtain⟨ys,e2,ez⟩:=bind_some ez;cases ez;rw[eval_ListComp];refine wpAny_comprehension_free (use:=none) rfl hs (zBg (zEZ I cs)) cs.kind (zCn cs) ?_;refine zGZ (RR:=λacc C=>compPost (model X.prog X.w) X.A X.xe none (EP X pins B Q) acc C) hcalm hi cs hm hg hc he I ds e1 hz e2 λD C s1 H'' m ns hI _ _ _ _ _ _ sm rv=>?_
  exact⟨m,ns,λh' sb=>⟨.ref D,H'',hI h' sb,rfl,cc _ H'' sm rv⟩⟩
 .rw [if_neg hz] at ez;cases ez
theorem zQB (hcalm:X.calm=true)(hi:GI X tg iter f)(hs:∀ x,foldedSetIterable iter X.env x=pure x)(cs:zCg X.env.scope scope)
  (hm:∀ (i:Nat) x,X.N[i]?=some x->ownB scope x=true->i∈ms)
  (hg:∀ s H fp,GG (zAV X (mask noN ms X.N++xs) scope s H fp) tg t)
  (hc:∀ s H fp,GCs (zAV X (mask noN ms X.N++xs) scope s H fp) ifs c) (he:∀ s H fp,GE (zAV X (mask noN ms X.N++xs) scope s H fp) elt e)
  (hN:X.N.Nodup) (hy:X.N[i]?=some y) (hl:Loc X.env.scope y) (hf:X.fn y=true\/X.env.scope.names.lookup y=some .local) :
  GS X (.Assign [.Name y py] (.ListComp elt [⟨tg,iter,ifs,0⟩] scope pos) spos) (setD i (zI0 ms xs.length f t c e)):=by
 have hge:GE X (.ListComp elt [⟨tg,iter,ifs,0⟩] scope pos) (zI0 ms xs.length f t c e):=zKu hcalm hi hs cs hm hg hc he;have hb:∃ b,swapsWith (.ListComp elt [⟨tg,iter,ifs,0⟩] scope pos) (some (.Name y py)) spos.line X.env=pure b:=⟨_,rfl⟩;obtain⟨b,hb⟩:=hb;cases b with
 | false=>exact zOR hN hy hl hge hb hf
 | true =>
  intro H0 pins s B H E I ⟨S,G,o,ds,h0,eo,p⟩;obtain⟨r,er,eo⟩:=bind_some eo;obtain⟨zs,e1,ez⟩:=bind_some er;by_cases hz:zs.length<=10000
  .rw [if_pos hz] at ez;obtain⟨ys,e2,ez⟩:=bind_some ez;cases ez;rw[exec_Assign_Name_used _ _ _ _ hb];refine qX (wpAny_standAt (qX ?_));show wpAny _ X.A (do let _<-comprehension (.ListComp elt [⟨tg,iter,ifs,0⟩] scope pos) scope X.env _ (newList []) false (eval iter X.env) (some (assign (.Name y py) X.env))) _ _ s;refine qX (wpAny_mono (wpAny_comprehension_free (use:=some (assign (.Name y py) X.env)) (Q:=λ_ s'=>SP X pins E .next s') rfl hs (zBg (zEZ I cs)) cs.kind (zCn cs) ?_) (λ_ s' hq=>q9 (q9 hq)) λ_ _ e=>e);refine zGZ (RR:=λacc C=>compPost (model X.prog X.w) X.A X.xe (some (assign (.Name y py) X.env)) (λ_ s'=>SP X pins E .next s') acc C) hcalm hi cs hm hg hc he I ds e1 hz e2 λD C s1 H'' m ns hI hC1 hC2 hC3 hC4 hC5 hC6 sm rv=>?_
   have I1:Inv X pins B H'' s1:=hI s1.heap (Heap.SameBut.refl ..);obtain⟨oC,es,ep,ho,hd,w3⟩:=id ns;have I2:Inv X (pins++[(C,oC)]) B H'' s1:=I1.pins_of λq hq=>(mem_append.mp hq).elim (λz=>I1.pin q (xq _ z)) λz=>by
    have e:q=(C,oC):=by simpa using z
    subst e;exact⟨ho,hC1,hC2,hC3,λv z=>by rw[hd] at z;cases z⟩
   show wpAny (model X.prog X.w) X.A (assign (.Name y py) X.env (.ref D)) _ X.xe s1;refine thn (zFU hN hy hl hf _ s1 B H'' (.ref D) (.ref D) (λB6 H6=>H6=H''/\B6=B.set i (some (.ref D))) I2 rfl ⟨rfl,rfl⟩) λ_ s6 zz69=>?_
   obtain⟨B6,H6,I6,q1,q2⟩:=zz69;subst q1 q2;have pc:=I6.pin (C,oC) (xq _ (xq _ (by simp)));refine⟨m,⟨oC,es,ep,pc.1,hd,w3⟩,λh' sb=>?_⟩;refine⟨_,H6,I6.unpinned.turned (it:=C) (t':=s6.toks) (λb o hb q=>sb.extBut b o hb q) hC1 (Ne.symm (Ne.symm hC2)) (.inr hC4) hC5 hC6,?_⟩;exact zEj ds h0 sm rv eo p
  .rw [if_neg hz] at ez;cases ez
end
section
variable {X:Cx}{tg:Expr}
def iAny (K:W.Frag)(tl:TE):TI:=λB H R=>tl B H λx H1=>∃ a,x=.ref a/\(((∃ xs,SqL K H1 a xs)/\R (Itl K a) H1)\/((∃ xs,SqT K H1 a xs)/\R (Itt K a) H1))
theorem zN9 (hl:PE X l tl):PI X tg l (iAny X.K tl):=by
 intro pins s B H R I h;refine thn (hl pins s B H _ I h) λv s1 zz70=>?_
 obtain⟨x,H1,I1,r1,q1⟩:=zz70;obtain⟨a,e,q⟩:=q1;subst e;cases r1;rcases q with ⟨⟨xs,hq⟩,q⟩ | ⟨⟨xs,hq⟩,q⟩
 .obtain ⟨its,rv,p,hz⟩:=I1.list hq;refine wpAny_pyIter_list p.isList ?_;refine⟨s1.heap.objs.size,[s1.heap.objs.size],_,_,H1,rfl,I1.kept (t':=s1.toks) λb o e=>get?_push_of_some _ e,zJD a _,⟨_,get?_push_size _ rfl,rfl,rfl⟩,λb hb=>?_,q⟩;have e:b=s1.heap.objs.size:=by simpa using hb
  subst e;exact I1.fpOk (le_refl _) (I1.hok.fresh (le_refl _))
 .obtain ⟨its,rv,p,hz⟩:=I1.tuple hq;refine wpAny_pyIter_tuple (show s1.heap.IsTuple a its.toArray from p) ?_;refine⟨s1.heap.objs.size,[s1.heap.objs.size],_,_,H1,rfl,I1.kept (t':=s1.toks) λb o e=>get?_push_of_some _ e,zIS a _,⟨_,get?_push_size _ rfl,rfl,rfl⟩,λb hb=>?_,q⟩;have e:b=s1.heap.objs.size:=by simpa using hb
  subst e;exact I1.fpOk (le_refl _) (I1.hok.fresh (le_refl _))
def zGN (f:Dst->Option R):Dst->Option (List D):=λG=>match f G with
 | some (.lst ds,.cl)=>some ds
 | some (.lst ds,.fr)=>some ds
 | some (.tup ds,.cl)=>some ds
 | _=>none
theorem zSr (h:GE X iter f):GI X tg iter (zGN f):=by
 refine⟨_,zN9 h,λB H S G xs Rr ds e q=>?_⟩;have fin:∀ {k:Kd},k≠.dt->f G=some (.lst xs,k)->iAny X.K (gT X.K f) B H Rr:=λ{k} hk ef=>by
  refine⟨S,G,_,ds,ef,λv H1 s1 r1=>?_⟩;have d1:=RV.den (d:=.lst xs) (k:=k) r1 hk;rw[Den] at d1;obtain⟨a,vs,rfl,w1,w2⟩:=d1;refine⟨a,rfl,.inl ⟨⟨vs,zAq.seq w1⟩,q _ H1 s1 λi H2 hi k2=>?_⟩⟩;have w3:=k2.seq w1;refine⟨λei=>⟨vs,w3,by rw[<- w2.length,ei];exact le_refl _⟩,λhl=>?_⟩;have hlv:i < vs.length:=by rw[<- w2.length];exact hl
  refine⟨⟨vs,vs[i],w3,by simp[hlv]⟩,λv H3 y=>⟨y.1,λx ex=>?_⟩⟩;have yv:=y.2 vs w3;obtain⟨u,q1,q2⟩:=w2.get ex;rw[yv] at q1;cases q1;exact q2
 unfold zGN at e;split at e
 .rename_i q1;cases e;exact fin (by decide) q1
 .rename_i q1;cases e;exact fin (by decide) q1
 .rename_i q1;cases e;refine⟨S,G,_,ds,q1,λv H1 s1 r1=>?_⟩;have d1:Den X.K (hide H1 S) (.tup xs) v:=r1;rw[Den] at d1;obtain⟨a,vs,rfl,w1,w2⟩:=d1;refine⟨a,rfl,.inr ⟨⟨vs,Same.tupS zAq w1⟩,q _ H1 s1 λi H2 hi k2=>?_⟩⟩;have w3:=Same.tupS k2 w1;refine⟨λei=>⟨vs,w3,by rw[<- w2.length,ei];exact le_refl _⟩,λhl=>?_⟩;have hlv:i < vs.length:=by rw[<- w2.length];exact hl
  refine⟨⟨vs,vs[i],w3,by simp[hlv]⟩,λv H3 y=>⟨y.1,λx ex=>?_⟩⟩;have yv:=y.2 vs w3;obtain⟨u,q1,q2⟩:=w2.get ex;rw[yv] at q1;cases q1;exact q2
 .cases e
def Itr3 (lo c:Int)(n:Nat):It:=⟨λi _=>i < n,λi H x H'=>H'=H/\x=.int (lo+i*c),λi _=>n<=i⟩
theorem zGn {P:Program}{w:World}{K:W.Frag}{tg:Expr}(it:Addr)(lo c:Int)(n:Nat):Turn P w K tg (Itr3 lo c n) [it] it (λi h=>IsRangeIter h it (lo+(i:Nat)*c) ((n:Int) - (i:Nat)) c) where
 mem:=by simp
 obj:=λi h st b hb=>by
  have e:b=it:=by simpa using hb
  subst e;exact⟨_,st,λv z=>by
   have z':Data.fields _=Data.cell v:=z;cases z'⟩
 keep:=λi h h' st k=>k it (by simp) _ st
 item:=by
  intro X hP hw hK hc i pins s B H E I hf st hg;subst hP hw hK;obtain⟨f0,f1,f2,f3,f4,f5⟩:=hf it (by simp);have W:=Walks.range (prog:=X.prog) (w:=X.w) (I.ok.hd hc) it lo c n;refine W.item i s _ _ hg st λv h' tk hv st' kk=>?_
  obtain⟨t,rfl⟩:=hv;have I1:Inv X pins B H { s with heap:=h',toks:=tk }:=I.turned (λb o hb e=>kk b o (by simpa using hb) e) f0 f1 f3 f4 f5;exact⟨_,rfl,zM4 (s:={ s with heap:=h',toks:=tk }) (n := "range_iterator") st' rfl rfl (by decide) ⟨.int (lo+i*c),H,I1,⟨t,rfl⟩,⟨rfl,rfl⟩,st',λb hb=>(hf b hb).1⟩⟩
 done:=by
  intro X hP hw hK hc i pins s B H E I hf st hg;subst hP hw hK;obtain⟨f0,f1,f2,f3,f4,f5⟩:=hf it (by simp);exact wpAny_pyNext_range_end (I.ok.hd hc) st (by have:n<=i:=hg;omega) λh' eb=>⟨rfl,I.turned (t':=s.toks) (λb o hb e=>eb b o hb e) f0 f1 f3 f4 f5⟩
 self:=λ_ _ _ _ _ st h=>wpAny_pyIter_rangeiter st h
theorem zGr (a b c:Int)(hc:c≠0):0<=Builtin.Range.rangeSize a b c:=by
 unfold Builtin.Range.rangeSize;split
 .split
  .have:=Int.ediv_nonneg (a:=b - a - 1) (b:=c) (by omega) (by omega);omega
  .exact Int.le_refl 0
 .split
  .have:=Int.ediv_nonneg (a:=a - b - 1) (b:=-c) (by omega) (by omega);omega
  .exact Int.le_refl 0
def ROk (a b c:Int):Prop:=c≠0/\c.natAbs < 1073741824/\Builtin.Range.small a b c=true
noncomputable instance (a b c:Int):Decidable (ROk a b c):=by unfold ROk;exact inferInstance
theorem zJh {pins:List (Addr×Obj)}{B:St}{H:Hp}{s:Shared}{R:It->Hp->Prop}{E:Value->Shared->Prop}{lo hi c:Int}{t u v:Tok}{tk:Nat}(I:Inv X pins B H s)(ok:ROk lo hi c)
  (q:R (Itr3 lo c (Builtin.Range.rangeSize lo hi c).toNat) H):wpAny (model X.prog X.w) X.A (pyIter (.ref s.heap.objs.size)) (PIE X pins B tg R) E { s with heap:=s.heap.push { cls:=.type "range",data:=.fields #[.int lo t,.int hi u,.int c v] },toks:=tk }:=by
 refine wpAny_pyIter_range (IsRange.new ..) ok.2.2 ?_;have I1:Inv X pins B H { s with heap:=s.heap.push { cls:=.type "range",data:=.fields #[.int lo t,.int hi u,.int c v] },toks:=tk }:=I.kept λb o e=>get?_push_of_some _ e
 refine⟨(s.heap.push { cls:=.type "range",data:=.fields #[.int lo t,.int hi u,.int c v] }).objs.size,[(s.heap.push { cls:=.type "range",data:=.fields #[.int lo t,.int hi u,.int c v] }).objs.size],_,_,H,rfl,
  I1.kept (t':=tk) λb o e=>get?_push_of_some _ e,zGn _ lo c (Builtin.Range.rangeSize lo hi c).toNat,?_,λb hb=>?_,q⟩
 .have e1:lo+((0:Nat):Int)*c=lo:=by simp
  have e2:(((Builtin.Range.rangeSize lo hi c).toNat:Nat):Int) - ((0:Nat):Int)=Builtin.Range.rangeSize lo hi c:=by have:=zGr lo hi c ok.1;omega
  show IsRangeIter _ _ (lo+((0:Nat):Int)*c) ((((Builtin.Range.rangeSize lo hi c).toNat:Nat):Int) - ((0:Nat):Int)) c;rw[e1,e2];exact get?_push_size _ rfl
 .have e:b=(s.heap.push { cls:=.type "range",data:=.fields #[.int lo t,.int hi u,.int c v] }).objs.size:=by simpa using hb
  subst e;exact I1.fpOk (le_refl _) (I1.hok.fresh (le_refl _))
def zUK (ta:TA):TI:=λB H R=>ta B H λvs H1=>∃ i j c:Int,vs=[.int i,.int j,.int c]/\ROk i j c/\R (Itr3 i c (Builtin.Range.rangeSize i j c).toNat) H1
theorem zJo (hg:Gl X "range")(hm:X.mg "range"=none)(ha:PA X [a,b,c] ta)(hs:starEach [a,b,c] X.env=[(false,eval a X.env),(false,eval b X.env),(false,eval c X.env)])(hs2:starEach [b,c] X.env=[(false,eval b X.env),(false,eval c X.env)]) :
  PI X tg (.Call (.Name "range" p) [a,b,c] [] pos) (zUK ta):=by
 intro pins s B H R I h;refine Call_ (zCv I hg hm boot_range (PyProof.Rows.callWith_type1 (thn (ha pos pins s B H _ I h) λus s1 zz71=>?_) (by rw[hs,hs2]) (by rw[hs2];rfl)));obtain⟨vs,H1,I1,r1,q1⟩:=zz71;obtain⟨i,j,k,e,ok,q⟩:=q1;subst e;cases r1 with
 | cons r rr =>
  cases rr with
  | cons r' rr =>
   cases rr with
   | cons r'' rr =>
    cases rr;obtain⟨t,rfl⟩:=r;obtain⟨t',rfl⟩:=r';obtain⟨t'',rfl⟩:=r'';exact call_range_3 ok.1 (zJh I1 ok q) (.inl (PyProof.noPylong_small ok.2.1))
def rngS (lo c:Int)(n:Nat):List D:=(List.range n).map λ(k:Nat)=>D.int (lo+k*c)
theorem zIX {K:W.Frag}{lo:Int}(i:Nat)(H2:Hp)(hi:i<=(rngS lo c n).length):(i=(rngS lo c n).length->(Itr3 lo c n).stop i H2)/\(i < (rngS lo c n).length->(Itr3 lo c n).go i H2/\∀ v H3,(Itr3 lo c n).yld i H2 v H3->H3=H2/\∀ x,(rngS lo c n)[i]?=some x->Den K (hide H1 S) x v):=by
 have hl:(rngS lo c n).length=n:=by unfold rngS;simp
 refine⟨λe=>by rw[hl] at e;exact Nat.le_of_eq e.symm,λh=>⟨by rw[hl] at h;exact h,λv H3 y=>⟨y.1,λx ex=>?_⟩⟩⟩;have hv:v=.int (lo+i*c):=y.2;rw[hl] at h;have:(rngS lo c n)[i]?=some (D.int (lo+(i:Int)*c)):=by unfold rngS;simp[h]
 rw[this] at ex;cases ex;rw[Den];exact hv
def zJb (f g h:Dst->Option R):Dst->Option (List D):=λG=>match f G,g G,h G with
 | some (.int i,_),some (.int j,_),some (.int c,_)=>if ROk i j c then some (rngS i c (Builtin.Range.rangeSize i j c).toNat) else none
 | _,_,_=>none
theorem zKp (hg:Gl X "range")(hm:X.mg "range"=none)(ha:GE X a f)(hb:GE X b g)(hc:GE X c h)(hs:starEach [a,b,c] X.env=(false,eval a X.env)::starEach [b,c] X.env)(hs2:starEach [b,c] X.env=(false,eval b X.env)::starEach [c] X.env)(hs3:starEach [c] X.env=[(false,eval c X.env)]) :
  GI X tg (.Call (.Name "range" p) [a,b,c] [] pos) (zJb f g h):=by
 refine⟨_,zJo hg hm (zAY ha (zAY hb (zAY hc zBC hs3) hs2) hs) (by rw[hs,hs2,hs3]) (by rw[hs2,hs3]),λB H S G xs Rr ds e q=>?_⟩;unfold zJb at e;split at e
 .rename_i i k j k2 c' k3 ei ej ec;by_cases hj:ROk i j c'
  .rw [if_pos hj] at e;cases e;exact⟨S,G,_,ds,ei,λv H1 s1 r1=>⟨S,G,_,ds.mono s1,ej,λu H2 s2 r2=>⟨S,G,_,ds.mono (s1.trans s2),ec,λu3 H3 s3 r3=>⟨i,j,c',by rw[r1.rd.int,r2.rd.int,r3.rd.int],hj,q _ H3 (s1.trans (s2.trans s3)) λi H2 hi _=>zIX i H2 hi⟩⟩⟩⟩
  .rw [if_neg hj] at e;cases e
 .cases e
end
end DL
end
section
namespace DL
open PySem
abbrev zCR (h:Heap) (z TI TO:Addr) (f0 f1:Value):Prop :=
 h.get? z=some { cls:=.type "zip",dict:=none,data:=.fields #[f0,f1,.bool false,.ref TI,.ref TO],slots:=#[] }
section
variable {prog:Program}{w:World}{A:Around}{E:Value->Shared->Prop}{s:Shared}
theorem zL7 (h:Q (s.heap.get? a) s):wpAny M A (loadIfAlive a) Q E s:=λJ p U4=>by
 unfold loadIfAlive;rw[Sem.wp_loadIfAlive];exact q9 h J p U4
theorem zEm {T:Addr}(hz:zCR s.heap z TI TO (rawInt T) (.bool f1))(hT:s.heap.get? T=some oT)
  (hQ:∀ h' f1',zCR h' z TI TO (rawInt T) (.bool f1')->Heap.SameBut z s.heap h'->Q false { s with heap:=h' }) :
  wpAny (model prog w) A (Builtin.SmallTypes.ownedTupleIsFree (.ref z)) Q E s:=by
 unfold Builtin.SmallTypes.ownedTupleIsFree;refine qX (wpAny_field hz rfl (x:=rawInt T) rfl ?_);show wpAny _ _ (loadIfAlive ((T:Int).toNat)>>=_) _ _ _;refine qX (zL7 ?_);rw[toNat_natCast,hT];simp only[Option.isNone_some,Bool.false_eq_true,if_false];refine qX (wpAny_field hz rfl (x:=.bool f1) rfl ?_);cases f1 with
 | true =>
  have e:((Value.bool true) != .bool true)=false:=by simp
  rw[e];simp only[Bool.false_eq_true,if_false];exact q9 (hQ s.heap true hz (Heap.SameBut.refl ..))
 | false =>
  have e:((Value.bool false) != .bool true)=true:=by simp
  rw[e];simp only[if_true];refine qX (wpAny_setField_rec hz (by simp) λO7 hz1 Y1=>?_);replace hz1:zCR O7 z TI TO (rawInt T) (.bool true):=hz1;exact q9 (hQ O7 true hz1 Y1)
theorem zFD {T:Addr}{Q:Value->Shared->Prop}(D:ZipApart z TI TO i1 i2 l1 l2)
  (hz:zCR s.heap z TI TO (rawInt T) (.bool f1)) (hT:s.heap.get? T=some oT) (hTI:IsPair s.heap TI (.ref i1) (.ref i2))
  (h1:s.heap.IsListIter i1 l1 k1) (h2:s.heap.IsListIter i2 l2 k2) (hl1:s.heap.IsList l1 xs) (hl2:s.heap.IsList l2 ys) (hx:xs[k1]?=some x) (hy:ys[k2]?=some y)
  (hQ:∀ h' f1',zCR h' z TI TO (rawInt T) (.bool f1')->h'.IsListIter i1 l1 (k1+1)->h'.IsListIter i2 l2 (k2+1)->IsPair h' s.heap.objs.size x y->h'.objs.size=s.heap.objs.size+1 ->
   (∀ c o,c≠z->c≠i1->c≠i2->s.heap.get? c=some o->h'.get? c=some o)->Q (.ref s.heap.objs.size) { s with heap:=h' }) :
  wpAny (model prog w) A (Builtin.«zip.__next__» ⟨[.ref z],[]⟩) (λfin s'=>∃ v,fin=.done (.ret v)/\Q v s') E s:=by
 show wpAny _ _ (field (.ref z) 2>>=_) _ _ _;refine qX (wpAny_field hz rfl (x:=.bool false) rfl ?_);show wpAny _ _ (field (.ref z) 3>>=_) _ _ _;refine qX (wpAny_field hz rfl (x:=.ref TI) rfl ?_);refine qX (wpAny_seqItems hTI rfl ?_);show wpAny _ _ (Builtin.SmallTypes.ownedTupleIsFree (.ref z)>>=_) _ _ _;refine qX (zEm hz hT λO7 f1' hz1 Y1=>?_);simp only[Bool.false_eq_true,if_false];refine qX ?_;simp only[<- Array.forIn_toList,forIn_cons,forIn_nil];refine qX (qX (wpAny_holding ?_));show wpAny _ _ (Builtin.SmallTypes.nextOf (.ref i1)>>=_) _ _ _;refine qX (wpAny_nextOf_list_item (h1.extBut Y1.extBut D.i1z) (hl1.extBut Y1.extBut D.l1z) hx λY6 U5 Y4=>q9 ?_);refine q9 ?_;refine qX (qX (wpAny_holding ?_));show wpAny _ _ (Builtin.SmallTypes.nextOf (.ref i2)>>=_) _ _ _;refine qX (wpAny_nextOf_list_item ((h2.extBut Y1.extBut D.i2z).extBut Y4.extBut D.i12.symm) ((hl2.extBut Y1.extBut D.l2z).extBut Y4.extBut D.l2i1) hy λY7 U6 Z1=>q9 ?_);refine q9 (q9 ?_);refine qX (wpAny_newTuple ?_ (show 2<=sizeLine by decide));have hsz:Y7.objs.size=s.heap.objs.size:=by rw[Z1.1,Y4.1,Y1.1]
 have hz3:zCR Y7 z TI TO (rawInt T) (.bool f1'):=Z1.extBut _ _ D.i2z.symm (Y4.extBut _ _ D.i1z.symm hz1);refine q9 ⟨_,rfl,?_⟩;show Q (.ref Y7.objs.size) _;rw[hsz];refine hQ _ f1' (get?_push_of_some _ hz3) ((U5.extBut Z1.extBut D.i12).at λo e=>get?_push_of_some _ e) (U6.at λo e=>get?_push_of_some _ e) ?_ (by rw[Heap.size_push,hsz]) λc o c1 c2 c3 e=>get?_push_of_some _ (Z1.extBut _ _ c3 (Y4.extBut _ _ c2 (Y1.extBut _ _ c1 e)))
 rw[<- hsz];exact get?_push_size _ rfl
theorem zFC {T:Addr}{k2:Nat}{ys:Array Value}(hh:A.handled=none)(D:ZipApart z TI TO i1 i2 l1 l2)
  (hz:zCR s.heap z TI TO (rawInt T) (.bool f1)) (hT:s.heap.get? T=some oT) (hTI:IsPair s.heap TI (.ref i1) (.ref i2))
  (h1:s.heap.IsListIter i1 l1 k1) (hl1:s.heap.IsList l1 xs) (hend:xs[k1]?=none)
  (hE:∀ h' e,(∀ c o,c≠z->c≠i1->s.heap.get? c=some o->h'.get? c=some o)->(∃ o,h'.get? e=some o/\o.cls=.type "StopIteration")->E (.ref e) { s with heap:=h' }) :
  wpAny (model prog w) A (Builtin.«zip.__next__» ⟨[.ref z],[]⟩) Q E s:=by
 show wpAny _ _ (field (.ref z) 2>>=_) _ _ _;refine qX (wpAny_field hz rfl (x:=.bool false) rfl ?_);show wpAny _ _ (field (.ref z) 3>>=_) _ _ _;refine qX (wpAny_field hz rfl (x:=.ref TI) rfl ?_);refine qX (wpAny_seqItems hTI rfl ?_);show wpAny _ _ (Builtin.SmallTypes.ownedTupleIsFree (.ref z)>>=_) _ _ _;refine qX (zEm hz hT λO7 f1' hz1 Y1=>?_);simp only[Bool.false_eq_true,if_false];refine qX ?_;simp only[<- Array.forIn_toList,forIn_cons,forIn_nil];refine qX (qX (wpAny_holding ?_));show wpAny _ _ (Builtin.SmallTypes.nextOf (.ref i1)>>=_) _ _ _;refine qX (wpAny_nextOf_list_end hh (h1.extBut Y1.extBut D.i1z) (hl1.extBut Y1.extBut D.l1z) hend λY6 e Y4 he=>?_);exact hE Y6 e (λc o c1 c3 x=>Y4 _ _ c3 (Y1.extBut _ _ c1 x)) he
theorem zKD {T:Addr}(D:ZipApart z TI TO i1 i2 l1 l2)
  (hz:zCR s.heap z TI TO (rawInt T) (.bool f1)) (hT:s.heap.get? T=some oT) (hTI:IsPair s.heap TI (.ref i1) (.ref i2))
  (h1:s.heap.IsListIter i1 l1 k1) (h2:s.heap.IsListIter i2 l2 k2) (hl1:s.heap.IsList l1 xs) (hl2:s.heap.IsList l2 ys) (hx:xs[k1]?=some x) (hy:ys[k2]?=some y)
  (hQ:∀ h' f1',zCR h' z TI TO (rawInt T) (.bool f1')->h'.IsListIter i1 l1 (k1+1)->h'.IsListIter i2 l2 (k2+1)->IsPair h' s.heap.objs.size x y->h'.objs.size=s.heap.objs.size+1 ->
   (∀ c o,c≠z->c≠i1->c≠i2->s.heap.get? c=some o->h'.get? c=some o)->Q (some (.ref s.heap.objs.size)) { s with heap:=h' }) :
  wpAny (model prog w) A (pyNext (.ref z)) Q E s:=by
 have hTy:s.TypeIs (.ref z) "zip":=⟨_,hz,rfl⟩;unfold pyNext;exact qX (wpAny_attempt (wpAny_callSpecial?_slot (name:=Str.ofString "__next__") hTy F.slot_zip_next
  (wpAny_call_entry F.slot_zip_next hTy F.entry_zip_next
   (zFD D hz hT hTI h1 h2 hl1 hl2 hx hy λh' f' a1 a3 a4 a5 a6 a7=>q9 (hQ h' f' a1 a3 a4 a5 a6 a7)) (F.args_zip_next_1 _))))
theorem zKC {T:Addr}{k2:Nat}{ys:Array Value}(hh:A.handled=none)(D:ZipApart z TI TO i1 i2 l1 l2)
  (hz:zCR s.heap z TI TO (rawInt T) (.bool f1)) (hT:s.heap.get? T=some oT) (hTI:IsPair s.heap TI (.ref i1) (.ref i2))
  (h1:s.heap.IsListIter i1 l1 k1) (hl1:s.heap.IsList l1 xs) (hend:xs[k1]?=none)
  (hQ:∀ h',(∀ c o,c≠z->c≠i1->s.heap.get? c=some o->h'.get? c=some o)->Q none { s with heap:=h' }):wpAny (model prog w) A (pyNext (.ref z)) Q E s:=by
 have hTy:s.TypeIs (.ref z) "zip":=⟨_,hz,rfl⟩;unfold pyNext;refine qX (wpAny_attempt (wpAny_callSpecial?_slot (name:=Str.ofString "__next__") hTy F.slot_zip_next
  (wpAny_call_entry F.slot_zip_next hTy F.entry_zip_next (zFC (k2:=k2) (ys:=ys) hh D hz hT hTI h1 hl1 hend λh' e hk he=>?_) (F.args_zip_next_1 _))))
 obtain⟨o,ho,hc⟩:=he;refine qX (wpAny_isInstance (T := "StopIteration") (b:=true) ⟨o,ho,hc⟩ isSubtype_stop ?_);exact q9 (hQ _ hk)
end
theorem zIR:typeLookup (.type "zip") "__len__"=pure none:=by rw[typeLookup_type,builtinLookup_eq_fast];kernel_rfl
theorem zGl:typeLookup (.type "zip") "__length_hint__"=pure none:=by rw[typeLookup_type,builtinLookup_eq_fast];kernel_rfl
def zB8 (S n:Nat):Array Value:=((List.range n).map λk=>Value.ref (S+1+k)).toArray
theorem zFu (S n:Nat):(zB8 S n).push (.ref (S+1+n))=zB8 S (n+1):=by
 unfold zB8;rw[range_succ,xJ];simp
theorem zDd (S n:Nat):(zB8 S n).size=n:=by unfold zB8;simp
structure ZJ (s:Shared)(S z TI TO i1 i2 l1 l2:Nat)(xs ys:Array Value)(i:Nat)(s':Shared):Prop where
 same:∃ h',s'={ s with heap:=h' }
 size:s'.heap.objs.size=S+1+i
 lst:∃ c,s'.heap.get? S=some { cls:=.type "list",dict:=none,data:=.seq (zB8 S i) c,slots:=#[] }
 zip:(i=0/\IsZip s'.heap z TI TO .none)\/(0 < i/\∃ f1,zCR s'.heap z TI TO (rawInt (S+1:Nat)) (.bool f1))
 ti:IsPair s'.heap TI (.ref i1) (.ref i2)
 tO:∃ a b,IsPair s'.heap TO a b
 it1:s'.heap.IsListIter i1 l1 i
 it2:s'.heap.IsListIter i2 l2 i
 ls1:s'.heap.IsList l1 xs
 ls2:s'.heap.IsList l2 ys
 tup:∀ k x y,k < i->xs[k]?=some x->ys[k]?=some y->IsPair s'.heap (S+1+k) x y
 keep:∀ (c:Nat) o,c≠z->c≠TO->c≠i1->c≠i2->s.heap.get? c=some o->s'.heap.get? c=some o
structure ZEnd (s:Shared)(S z TO i1 i2:Nat)(xs ys:Array Value)(s':Shared):Prop where
 same:∃ h',s'={ s with heap:=h' }
 lst:∃ c,s'.heap.get? S=some { cls:=.type "list",dict:=none,data:=.seq (zB8 S xs.size) c,slots:=#[] }
 tup:∀ k x y,xs[k]?=some x->ys[k]?=some y->IsPair s'.heap (S+1+k) x y
 keep:∀ (c:Nat) o,c≠z->c≠TO->c≠i1->c≠i2->s.heap.get? c=some o->s'.heap.get? c=some o
section
variable {prog:Program}{w:World}{A:Around}{E:Value->Shared->Prop}{s:Shared}{R:Result->Shared->Prop}
variable {S z TI TO i1 i2 l1 l2:Nat}{xs ys:Array Value}
theorem zL4 (hh:A.in1.handled=none)(D:ZipApart z TI TO i1 i2 l1 l2)(hlen:xs.size=ys.size)(hn:xs.size<=10000)(hz:z < S)(hTI:TI < S)(hTO:TO < S)(hi1:i1 < S)(hi2:i2 < S)(hl1:l1 < S)(hl2:l2 < S)(hfresh:s.heap.objs.size<=S)(res:Value)
  (hR:∀ s',ZEnd s S z TO i1 i2 xs ys s'->R (.ok (.ret res)) s') :
  ∀ (k i:Nat) (s':Shared),xs.size - i=k->i<=xs.size->ZJ s S z TI TO i1 i2 l1 l2 xs ys i s'->codeAny (model prog w) A (.builtin "list.extend.loop" ⟨[.ref S,.ref z,res],[]⟩) R s':=by
 intro k
 induction k with
 | zero =>
  intro i s' hk hi J;have hin:i=xs.size:=by omega
  subst hin;obtain⟨h0,rfl⟩:=J.same;refine codeAny_builtin F.entry_extend_loop ?_;rw[Around.under_plainId F.plain_extend_loop _];show wpAny _ A.in1 (pyNext (.ref z)>>=_) _ _ _;have hend:xs[xs.size]?=none:=by simp
  obtain⟨c,hc⟩:=J.lst;obtain⟨ta,tb,hto⟩:=J.tO;refine qX ?_;have fin:∀ h',(∀ (c:Nat) o,c≠z->c≠TO->c≠i1->c≠i2->h0.get? c=some o->h'.get? c=some o)->R (.ok (.ret res)) { s with heap:=h' }:=λh' kk=>by
   have up:∀ (b:Nat) o,S<=b->h0.get? b=some o->h'.get? b=some o:=λb o hb e=>kk b o (by omega) (by omega) (by omega) (by omega) e
   refine hR _ ⟨⟨h',rfl⟩,⟨c,up S _ (le_refl _) hc⟩,λk x y hx hy=>up _ _ (by omega) (J.tup k x y ?_ hx hy),λb o b1 b2 b3 b4 e=>kk b o b1 b2 b3 b4 (J.keep b o b1 b2 b3 b4 e)⟩;by_cases q:k < xs.size
   .exact q
   .have:xs[k]?=none:=Array.getElem?_eq_none (Nat.le_of_not_lt q);rw[this] at hx;cases hx
  rcases J.zip with ⟨i0,hzz⟩ | ⟨ip,f1,hzz⟩
  .exact wpAny_pyNext_zip_end hh D hzz J.ti hto J.it1 J.it2 J.ls1 J.ls2 (.inl hend) λh' kk=>q9 (fin h' kk)
  .have hx0:∃ x,xs[0]?=some x:=⟨xs[0],by simp[ip]⟩;have hy0:∃ y,ys[0]?=some y:=⟨ys[0]'(by omega),Array.getElem?_eq_getElem (by omega)⟩;obtain⟨x0,ex0⟩:=hx0;obtain⟨y0,ey0⟩:=hy0;have t0:=J.tup 0 x0 y0 ip ex0 ey0;rw[Nat.add_zero] at t0;exact zKC (k2:=0) (ys:=ys) hh D hzz t0 J.ti J.it1 J.ls1 hend λh' kk=>q9 (fin h' λc o c1 _ c3 _ e=>kk c o c1 c3 e)
 | succ k ih =>
  intro i s' hk hi J;have hlt:i < xs.size:=by omega
  obtain⟨h0,rfl⟩:=J.same;have hx:xs[i]?=some xs[i]:=by simp[hlt]
  have hy:ys[i]?=some (ys[i]'(by omega)):=Array.getElem?_eq_getElem (by omega);refine codeAny_builtin F.entry_extend_loop ?_;rw[Around.under_plainId F.plain_extend_loop _];show wpAny _ A.in1 (pyNext (.ref z)>>=_) _ _ _;obtain⟨c,hc⟩:=J.lst;obtain⟨ta,tb,hto⟩:=J.tO;have hsz:h0.objs.size=S+1+i:=J.size;have go:∀ h',(∀ (c:Nat) o,c≠z->c≠TO->c≠i1->c≠i2->h0.get? c=some o->h'.get? c=some o)->(∃ f1,zCR h' z TI TO (rawInt (S+1:Nat)) (.bool f1))->(∃ a b,IsPair h' TO a b)->h'.IsListIter i1 l1 (i+1)->h'.IsListIter i2 l2 (i+1) ->
    IsPair h' (S+1+i) xs[i] (ys[i]'(by omega))->h'.objs.size=S+1+i+1 ->
    wpAny (model prog w) A.in1 (updateSeq S (·.push (.ref (S+1+i)))>>=λ_=>again (.builtin "list.extend.loop" ⟨[.ref S,.ref z,res],[]⟩))
     (λfin s'=>match fin with | .done f=>R (.ok f) s' | .again c'=>c'.quiet=true/\codeAny (model prog w) A c' R s') (λe s'=>R (.error e) s') { s with heap:=h' }:=λh' kk hzz hto' ht1 ht2 hp hs'=>by
   have up:∀ (b:Nat) o,S<=b->h0.get? b=some o->h'.get? b=some o:=λb o hb e=>kk b o (by omega) (by omega) (by omega) (by omega) e
   have hc':=up S _ (le_refl _) hc;refine qX ?_;refine wpAny_updateSeq hc' rfl (q9 ⟨plainId_quiet F.plain_extend_loop _,ih (i+1) _ (by omega) hlt ?_⟩) (by rw[zDd];exact le_trans (Nat.le_of_lt hlt) (le_trans hn (by decide))) (by show ((zB8 S i).push _).size<=sizeLine+1;rw[Array.size_push,zDd];exact Nat.succ_le_succ (le_trans (Nat.le_of_lt hlt) (le_trans hn (by decide))));have oth:∀ (b:Nat) o,b≠S->h'.get? b=some o->(h'.update S (Obj.mapSeq (·.push (.ref (S+1+i))))).get? b=some o:=λb o hb e=>(Heap.get?_update_other _ _ (Ne.symm hb)).trans e
   obtain⟨f1,hzz⟩:=hzz;obtain⟨a',b',hto'⟩:=hto';have ql:∃ c,(h'.update S (Obj.mapSeq (·.push (.ref (S+1+i))))).get? S=some { cls:=.type "list",dict:=none,data:=.seq (zB8 S (i+1)) c,slots:=#[] }:=⟨_,by
    rw[<- zFu];exact Heap.get?_update_self (Obj.mapSeq (·.push (Value.ref (S+1+i)))) hc' rfl⟩
   refine⟨⟨_,rfl⟩,?_,ql,.inr ⟨Nat.succ_pos i,f1,oth _ _ (by omega) hzz⟩,oth _ _ (by omega) (kk _ _ D.TIz D.TITO D.TIi1 D.TIi2 J.ti),⟨a',b',oth _ _ (by omega) hto'⟩,ht1.at λo e=>oth _ o (by omega) e,ht2.at λo e=>oth _ o (by omega) e,
    (J.ls1.at λo e=>kk _ o D.l1z D.l1TO D.l1i1 D.l1i2 e).at λo e=>oth _ o (by omega) e,(J.ls2.at λo e=>kk _ o D.l2z D.l2TO D.l2i1 D.l2i2 e).at λo e=>oth _ o (by omega) e,λk x y hk' ex ey=>?_,λb o b1 b2 b3 b4 e=>?_⟩
   .show (h'.update S _).objs.size=_;rw[Heap.size_update,hs'];omega
   .refine oth _ _ (by omega) ?_;by_cases q:k < i
    .exact up _ _ (by omega) (J.tup k x y q ex ey)
    .have:k=i:=by omega
     subst this;rw[hx] at ex;rw[hy] at ey;cases ex;cases ey;exact hp
   .by_cases q:b=S
    .subst q;have:=lt_size e;exact absurd (xQ this hfresh) (lt_irrefl _)
    .exact oth b o q (kk b o b1 b2 b3 b4 (J.keep b o b1 b2 b3 b4 e))
  refine qX ?_;rcases J.zip with ⟨i0,hzz⟩ | ⟨ip,f1,hzz⟩
  .subst i0;refine wpAny_pyNext_zip_item D hzz J.ti hto J.it1 J.it2 J.ls1 J.ls2 hx hy λh' a1 a2 a3 a4 a5 a6 a7=>?_
   have e1:({ s with heap:=h0 }:Shared).heap.objs.size=S+1+0:=hsz;rw[e1] at a1 a5 a6 ⊢;exact go h' a7 ⟨false,a1⟩ ⟨_,_,a2⟩ a3 a4 a5 a6
  .have hx0:∃ x,xs[0]?=some x:=⟨xs[0]'(by omega),Array.getElem?_eq_getElem (by omega)⟩;have hy0:∃ y,ys[0]?=some y:=⟨ys[0]'(by omega),Array.getElem?_eq_getElem (by omega)⟩;obtain⟨x0,ex0⟩:=hx0;obtain⟨y0,ey0⟩:=hy0;have t0:=J.tup 0 x0 y0 ip ex0 ey0;rw[Nat.add_zero] at t0;refine zKD D hzz t0 J.ti J.it1 J.it2 J.ls1 J.ls2 hx hy λh' f' a1 a3 a4 a5 a6 a7=>?_
   have e1:({ s with heap:=h0 }:Shared).heap.objs.size=S+1+i:=hsz;rw[e1] at a5 a6 ⊢;exact go h' (λc o c1 _ c3 c4 e=>a7 c o c1 c3 c4 e) ⟨f',a1⟩ ⟨ta,tb,a7 _ _ D.TOz D.TOi1 D.TOi2 hto⟩ a3 a4 a5 a6
end
section
variable {prog:Program}{w:World}{A:Around}{E:Value->Shared->Prop}{s:Shared}
variable {z TI TO i1 i2 l1 l2:Nat}{xs ys:Array Value}
theorem zFp (hh:A.handled=none)(D:ZipApart z TI TO i1 i2 l1 l2)(hz:IsZip s.heap z TI TO .none)(hTI:IsPair s.heap TI (.ref i1) (.ref i2))(hTO:IsPair s.heap TO a b)(h1:s.heap.IsListIter i1 l1 0)(h2:s.heap.IsListIter i2 l2 0)
  (hl1:s.heap.IsList l1 xs) (hl2:s.heap.IsList l2 ys) (hlen:xs.size=ys.size) (hn:xs.size<=10000) (hQ:∀ s',ZEnd s s.heap.objs.size z TO i1 i2 xs ys s'->Q (.ref s.heap.objs.size) s') :
  wpAny (model prog w) A (call (.type "list") [.ref z]) Q E s:=by
 have ltz:z < s.heap.objs.size:=lt_size hz;have ltTI:TI < s.heap.objs.size:=lt_size hTI;have ltTO:TO < s.heap.objs.size:=lt_size hTO;have lt1:i1 < s.heap.objs.size:=by obtain⟨o,e,_⟩:=h1;exact lt_size e
 have lt2:i2 < s.heap.objs.size:=by obtain⟨o,e,_⟩:=h2;exact lt_size e
 have ltl1:l1 < s.heap.objs.size:=by obtain⟨o,e,_⟩:=hl1;exact lt_size e
 have ltl2:l2 < s.heap.objs.size:=by obtain⟨o,e,_⟩:=hl2;exact lt_size e
 refine callType_codes (Q₁:=λobj O2=>obj=.ref s.heap.objs.size/\O2={ s with heap:=s.heap.push { cls:=.type "list",data:=.seq #[] } }) F.called_list (F.typeCall_list_1 _) F.entry_list_init
  (code_list_new _ ⟨rfl,rfl⟩) λobj O2 O7=>?_
 obtain⟨rfl,rfl⟩:=O7;have hS:(s.heap.push { cls:=.type "list",data:=.seq #[] }).get? s.heap.objs.size=some { cls:=.type "list",data:=.seq #[] }:=get?_push_size _ rfl;refine⟨⟨_,hS,rfl⟩,F.args_list_init_2 _ _,?_⟩;show wpAny _ A.in1.in1 (do let old<-Builtin.List.listItems (.ref s.heap.objs.size);Builtin.List.listUpdate (.ref s.heap.objs.size) (λ_=>#[]);letGo old.toList.reverse;Builtin.List.listExtendWith (.ref s.heap.objs.size) (.ref z) .none) _ _ _;refine qX ?_;unfold Builtin.List.listItems;refine qX (wpAny_seqItems hS rfl (q9 ?_));show wpAny _ A.in1.in1 (updateSeq s.heap.objs.size (λ_=>#[])>>=λ_=>letGo (#[]:Array Value).toList.reverse>>=λ_=>Builtin.List.listExtendWith (.ref s.heap.objs.size) (.ref z) .none) _ _ _;refine qX (wpAny_updateSeq hS rfl ?_);have hS2:=Heap.get?_update_self (Obj.mapSeq (λ_=>(#[]:Array Value))) hS rfl;refine qX (wpAny_letGo ?_);have e2:∃ h2',h2'=(s.heap.push { cls:=.type "list",data:=.seq #[] }).update s.heap.objs.size (Obj.mapSeq (λ_=>(#[]:Array Value))):=⟨_,rfl⟩;obtain⟨h2',eh2⟩:=e2;rw[<- eh2] at hS2 ⊢;have oth2:∀ (b:Nat) o,b≠s.heap.objs.size->(s.heap.push { cls:=.type "list",data:=.seq #[] }).get? b=some o->h2'.get? b=some o:=λb o hb e=>by rw[eh2];exact(Heap.get?_update_other _ _ (Ne.symm hb)).trans e
 have kp2:∀ (b:Nat) o,s.heap.get? b=some o->h2'.get? b=some o:=λb o e=>oth2 b o (ne_of_lt (lt_size e)) (get?_push_of_some _ e)
 have sz2:h2'.objs.size=s.heap.objs.size+1:=by rw[eh2,Heap.size_update,Heap.size_push]
 unfold Builtin.List.listExtendWith;have hT:({ s with heap:=h2' }:Shared).TypeIs (.ref z) "zip":=⟨_,kp2 _ _ hz,rfl⟩;refine qX (wpAny_typeOf hT ?_);have q1:Builtin.List.listSameRef (.ref s.heap.objs.size) (.ref z)=false:=by
  have:s.heap.objs.size≠z:=Nat.ne_of_gt ltz;simp[Builtin.List.listSameRef,this]
 have q2:(Value.type "zip"==Value.type "list")=false:=by decide
 have q3:(Value.type "zip"==Value.type "tuple")=false:=by decide
 simp only[q1,q2,q3,Bool.or_false,Bool.false_eq_true,if_false];refine qX (wpAny_pyIter_zip (kp2 _ _ hz) ?_);refine qX (wpAny_holding ?_);unfold Builtin.List.listLengthHint;refine qX (wpAny_specialOf hT zIR ?_);show wpAny _ A.in1.in1 (specialOf (Value.ref z) (Str.ofString "__length_hint__")>>=_) _ _ _;refine qX (wpAny_specialOf hT zGl ?_);refine q9 ?_;show wpAny _ A.in1.in1 (rule "list.extend.makes-room">>=λ_=>Builtin.List.listTouch (.ref s.heap.objs.size)>>=λ_ =>
  again (.builtin "list.extend.loop" ⟨[.ref s.heap.objs.size,.ref z,.none],[]⟩)) _ _ _
 refine qX (wpAny_rule ?_);refine qX ?_;show wpAny _ A.in1.in1 (updateSeq s.heap.objs.size (·.push .none)>>=λ_=>updateSeq s.heap.objs.size (·.pop)) _ _ _;refine qX (wpAny_updateSeq hS2 rfl ?_);have hS3:=Heap.get?_update_self (Obj.mapSeq (·.push Value.none)) hS2 rfl;refine wpAny_updateSeq (hz:=by seq_fits) hS3 rfl ?_;have hS4:=Heap.get?_update_self (Obj.mapSeq (·.pop)) hS3 rfl;have oth:∀ (b:Nat) o,b≠s.heap.objs.size->h2'.get? b=some o->((h2'.update s.heap.objs.size (Obj.mapSeq (·.push Value.none))).update s.heap.objs.size (Obj.mapSeq (·.pop))).get? b=some o :=
  λb o hb e=>(Heap.get?_update_other _ _ (Ne.symm hb)).trans ((Heap.get?_update_other _ _ (Ne.symm hb)).trans e)
 have kp:∀ (b:Nat) o,s.heap.get? b=some o->((h2'.update s.heap.objs.size (Obj.mapSeq (·.push Value.none))).update s.heap.objs.size (Obj.mapSeq (·.pop))).get? b=some o:=λb o e=>oth b o (ne_of_lt (lt_size e)) (kp2 b o e)
 refine q9 ⟨plainId_quiet F.plain_extend_loop _,zL4 (s:=s) (A:=A.in1) hh D hlen hn ltz ltTI ltTO lt1 lt2 ltl1 ltl2 (le_refl _) .none (λs' e=>⟨rfl,hQ s' e⟩) xs.size 0 _ rfl (zero_le _) ?_⟩;exact⟨⟨_,rfl⟩,by show (Heap.update _ _ _).objs.size=_;rw[Heap.size_update,Heap.size_update,sz2],⟨_,hS4⟩,.inl ⟨rfl,kp _ _ hz⟩,kp _ _ hTI,⟨a,b,kp _ _ hTO⟩,h1.at λo e=>kp _ o e,h2.at λo e=>kp _ o e,hl1.at λo e=>kp _ o e,hl2.at λo e=>kp _ o e,
  λk x y hk=>absurd hk (Nat.not_lt_zero k),λc o _ _ _ _ e=>kp c o e⟩
end
end DL
end
section
namespace DL
open PySem Spec PyProof.Rows L2
noncomputable def HZ (H:Hp)(S:Nat)(us ws:List V):Hp:=λ(b:Nat)=>if b=S then some (.lst ((List.range us.length).map λk=>V.ref (S+1+k))) else if S+1<=b/\b < S+1+us.length then some (.tup [us.getD (b - (S+1)) .non,ws.getD (b - (S+1)) .non]) else H b
theorem hz_S :HZ H S us ws S=some (.lst ((List.range us.length).map λk=>V.ref (S+1+k))):=if_pos rfl
theorem hz_t {H:Hp}{S k:Nat}{us ws:List V}(hk:k < us.length):HZ H S us ws (S+1+k)=some (.tup [us.getD k .non,ws.getD k .non]):=by
 unfold HZ;rw[if_neg (by omega),if_pos (by omega),Nat.add_sub_cancel_left]
theorem zOQ (hb:b < S):HZ H S us ws b=H b:=by
 unfold HZ;rw[if_neg (by omega),if_neg (by omega)]
theorem zFv:∀ l:List Nat,Vals (l.map V.ref) (l.map Value.ref)
 | []=>.nil
 | a::l=>.cons rfl (zFv l)
theorem zJB (r:Vals us its)(hk:k < us.length):∃ x,its[k]?=some x/\RelV (us.getD k .non) x:=by
 have e:us[k]?=some (us.getD k .non):=by
  rw[getD_eq_getElem?_getD];simp[hk]
 exact r.get e
def zipT (xs ys:List D):List D:=List.zipWith (λa b=>D.tup [a,b]) xs ys
noncomputable def zipD (x y:D):Option R:=match x,y with
 | .lst xs,.lst ys=>if xs.length=ys.length/\xs.length<=10000 then some (.lst (zipT xs ys),.fr) else none
 | _,_=>none
section
variable {X:Cx}
theorem zIt (hcalm:X.calm=true)(hgl:Gl X "list")(hml:X.mg "list"=none)(hgz:Gl X "zip")(hmz:X.mg "zip"=none)(ha:GE X a f)(hb:GE X b g)
  (hs:starEach [a,b] X.env=(false,eval a X.env)::starEach [b] X.env) (hs2:starEach [b] X.env=[(false,eval b X.env)]) :
  GE X (.Call (.Name "list" p) [.Call (.Name "zip" p2) [a,b] [] pos2] [] pos) (two f g zipD):=by
 intro pins s B H Q I ⟨S,G,r,ds,e,c⟩;obtain⟨x,ex,e⟩:=bind_some e;obtain⟨y,ey,e⟩:=bind_some e;unfold zipD at e;split at e
 .rename_i xs ys exs eys;by_cases ok:xs.length=ys.length/\xs.length<=10000
  .rw [if_pos ok] at e;cases e;obtain⟨hle,hl10⟩:=ok;refine wpAny_Call_Name_kw (zCv I hgl hml boot_list ?_ (by decide) (by decide));refine PyProof.Rows.callWith_type1 ?_ rfl rfl;show wpAny _ _ (spliced ((false,eval (.Call (.Name "zip" p2) [a,b] [] pos2) X.env)::[])) _ _ s;refine Calls.spliced_cons ?_;refine wpAny_Call_Name_kw (zCv I hgz hmz boot_zip ?_ (by decide) (by decide));refine PyProof.Rows.callWith_type1 (thn ((zAY ha (zAY hb zBC hs2) hs) pos2 pins s B H (λvs H2=>∃ vx vy,vs=[vx,vy]/\Same H H2/\Rdv X.K H2 S x.1 vx/\Rdv X.K H2 S y.1 vy) I
    ⟨S,G,x,ds,ex,λvx H1 s1 r1=>⟨S,G,y,ds.mono s1,ey,λvy H2 s2 r2=>⟨vx,vy,rfl,s1.trans s2,r1.rd.mono s2,r2.rd⟩⟩⟩) λus s1 ⟨vs,H1,I1,r1,q1⟩=>?_) hs (by rw[hs2];rfl)
   obtain⟨vx,vy,rfl,sm,dx,dy⟩:=q1;rw[exs] at dx;rw[eys] at dy;obtain⟨l1,v1,rfl,w1,d1⟩:=dx.lst;obtain⟨l2,v2,rfl,w2,d2⟩:=dy.lst;obtain⟨u1,u2,rfl,ru1,ru2⟩:=zMA r1;cases ru1;cases ru2;obtain⟨its1,rv1,p1,z1⟩:=I1.list w1;obtain⟨its2,rv2,p2,z2⟩:=I1.list w2;have n1:xs.length=v1.length:=d1.length;have n2:ys.length=v2.length:=d2.length;have m1:=rv1.length;have m2:=rv2.length;have lt1:l1 < s1.heap.objs.size:=by obtain⟨o,q,_⟩:=p1.isList;exact lt_size q
   have lt2:l2 < s1.heap.objs.size:=by obtain⟨o,q,_⟩:=p2.isList;exact lt_size q
   refine call_zip_2 p1.isList p2.isList λh' hz hTI hTO hit1 hit2 hsz hk=>?_
   refine Calls.spliced_nil ?_;refine zFp (s:={ s1 with heap:=h' }) (I.ok.hd hcalm) (zipApart_new lt1 lt2) hz hTI hTO hit1 hit2 (p1.isList.at λo q=>hk _ o q) (p2.isList.at λo q=>hk _ o q) (by rw[xy,xy];omega) (by rw[xy];omega) λs' Z=>?_
   obtain⟨h'',es'⟩:=Z.same;have eS:({ s1 with heap:=h' }:Shared).heap.objs.size=s1.heap.objs.size+5:=hsz;have gS:∃ n0,n0=s1.heap.objs.size:=⟨_,rfl⟩;obtain⟨n0,en0⟩:=gS;rw[eS,<- en0] at Z ⊢;rw[<- en0] at lt1 lt2;subst es';have kp:∀ (b:Nat) o,s1.heap.get? b=some o->h''.get? b=some o:=λb o q=>by
    have hb:b < n0:=by rw[en0];exact lt_size q
    exact Z.keep b o (by omega) (by omega) (by omega) (by omega) (hk b o q)
   obtain⟨cc,hlst⟩:=Z.lst;have lt0:∀ {b:Nat} {o:HO},H1 b=some o->b < n0:=λ{b o} q=>by rw[en0];exact(I1.hok b o q).lt
   have old:∀ {b:Nat} {o:HO},H1 b=some o->HZ H1 (n0+5) v1 v2 b=some o:=λ{b o} q=>by rw[zOQ (by have:=lt0 q;omega)];exact q
   have hn:its1.toArray.size=v1.length:=by rw[xy];exact m1.symm
   rw[hn] at hlst;have hok:HOk X.prog X.w (HZ H1 (n0+5) v1 v2) h'':=λ(b:Nat) o q=>by
    by_cases c1:b=n0+5
    .subst c1;rw[hz_S] at q;cases q;refine⟨by rw[qy,length_range];exact z1,(List.range v1.length).map λk=>Value.ref (n0+5+1+k),cc,?_,hlst⟩;have:=zFv ((List.range v1.length).map λk=>n0+5+1+k);rw[map_map,map_map] at this;exact this
    .by_cases c2:n0+5+1<=b/\b < n0+5+1+v1.length
     .have eb:b=n0+5+1+(b - (n0+5+1)):=by omega
      have hkl:b - (n0+5+1) < v1.length:=by omega
      rw[eb,hz_t hkl] at q;cases q;obtain⟨ux,ex1,rx⟩:=zJB rv1 hkl;obtain⟨uy,ey1,ry⟩:=zJB rv2 (k:=b - (n0+5+1)) (by omega);have tp:=Z.tup (b - (n0+5+1)) ux uy (by simpa using ex1) (by simpa using ey1);refine⟨by show 2<=sizeLine;decide,[ux,uy],.cons rx (.cons ry .nil),?_⟩;rw[<- eb] at tp;exact⟨_,tp,rfl,_,rfl⟩
     .have q':H1 b=some o:=by
       unfold HZ at q;rw[if_neg c1,if_neg c2] at q;exact q
      exact(I1.hok b o q').stay (λd v _ w=>kp d v w) (λd w=>old w) (λd ws w=>old w) λd ob u w _=>old w
   have gone:∀ (b:Nat) o,s1.heap.get? b=some o->H1 b=none->HZ H1 (n0+5) v1 v2 b=none:=λb o q n=>by
    have hb:b < n0:=by rw[en0];exact lt_size q
    rw[zOQ (by omega)];exact n
   have un:Un X.fs [] H1 (HZ H1 (n0+5) v1 v2) s1.heap h'':=⟨λb o q _ _ _=>kp b o q,λb o q _ _ _=>⟨o.slots,kp b o q⟩,λb o q n _=>gone b o q n,λb o q _=>⟨o,kp b o q⟩,λb ws q=>old q,λb o w q=>old q,λb ps q=>old q⟩;have sH:Same H1 (HZ H1 (n0+5) v1 v2):=λb o q=>old q
   have fr:H1 (n0+5)=none:=I1.hok.fresh (by rw[<- en0];omega);have nS:∀ {b:Nat},b∈S->b < n0:=λ{b} z=>by
    obtain⟨ws,q,_⟩:=(ds.mono sm).sok b z;exact lt0 q
   refine⟨.ref (n0+5),_,I1.un (t':=s1.toks) un hok,rfl,c _ _ (sm.trans sH) ⟨n0+5,_,_,rfl,rfl,λz=>absurd (nS z) (by omega),sm.free fr,hz_S,?_⟩⟩;refine DenL.of_get ?_ λi d v ed ev=>?_
   .unfold zipT;rw[List.length_zipWith,qy,length_range];omega
   .unfold zipT at ed;rw[List.getElem?_zipWith] at ed;rw[List.getElem?_map] at ev;cases e1:xs[i]? with
    | none=>rw[e1] at ed;simp at ed
    | some dx' =>
     cases e2:ys[i]? with
     | none=>rw[e1,e2] at ed;simp at ed
     | some dy' =>
      rw[e1,e2] at ed;cases ed;have hi:i < v1.length:=by rw[<- n1];exact(zzg e1).1
      rw[getElem?_range hi] at ev;cases ev;obtain⟨va,qa,da⟩:=d1.get e1;obtain⟨vb,qb,db⟩:=d2.get e2;have ga:v1.getD i .non=va:=by rw[getD_eq_getElem?_getD,qa];rfl
      have gb:v2.getD i .non=vb:=by rw[getD_eq_getElem?_getD,qb];rfl
      have up:Same (hide H1 S) (hide (HZ H1 (n0+5) v1 v2) ((n0+5)::S)):=λ(b:Nat) o q=>by
       obtain⟨q1,q2⟩:=zA7 q;rw[zAT λz=>(mem_cons.mp z).elim (λz=>by have z':b=n0+5:=z;have:=lt0 q2;omega) q1];exact old q2
      rw[Den];refine⟨n0+5+1+i,[va,vb],rfl,SqT.of ?_,.cons (da.mono up) (.cons (db.mono up) .nil)⟩;rw[zAT λz=>(mem_cons.mp z).elim (λz=>by have z':n0+5+1+i=n0+5:=z;omega) λz=>by have:=nS z;omega,hz_t hi,ga,gb]
  .rw [if_neg ok] at e;cases e
 .cases e
end
def Arr (stack:List Env)(H':Hp)(h0:Heap)(ex:List Addr)(a C:Addr)(h:Heap):Prop :=
 ∃ B:Heap,B.StaysIn h/\B.get? a=none/\h.FunFrames B stack/\(∀ b u,H' b=some u->∃ o,B.get? b=some o)/\(∀ b o,h0.get? b=some o->b∉frs stack->b∉ex->∃ o',B.get? b=some o') /\
  ∃ a0,(∃ fl,h.TracedAtW B a (.ref C) a0 fl)\/(∃ oe vs,h.get? a=some oe/\oe.cls=.ref C/\oe.data=.fields vs/\vs[1]?=some .none/\vs[0]?=some a0)
structure Gone (P:Program)(w:World)(stack:List Env)(ex:List Addr)(H H':Hp)(s s':Shared)(a C:Addr):Prop where
 os:s'.os=s.os
 bare:AllBare s'.gens
 un:Un (frs stack) ex H H' s.heap s'.heap
 hok:HOk P w H' s'.heap
 arr:Arr stack H' s.heap ex a C s'.heap
def GX {U:Type}(X:Cx)(m:Sem U)(f:Dst->Option Str):Prop:=True
abbrev GXs (X:Cx) (st:Stmt) (f:Dst->Option Str):Prop:=GX X (exec st X.env) f
abbrev GXss (X:Cx) (st:List Stmt) (f:Dst->Option Str):Prop:=GX X (execs st X.env) f
section
variable {X:Cx}
theorem zAS {U:Type}{m:Sem U}:GX X m λ_=>none:=trivial
end
end DL
end
section
namespace DL
open PySem Spec PyProof.Rows L2 PySem.W Builtin Builtin.ObjectAttr Builtin.Getset_descriptor
section
variable {prog:Program}{w:World}{A:Around}{E:Value->Shared->Prop}{h:Heap}{g:Array GenState}{d:Drawn}{t:Nat}{os:OsState}{a C:Addr}{o:Obj}{K:W.Frag}
structure XCls (K:W.Frag)(C:Addr):Prop where
 ga:findIn K (.ref C) "__getattribute__"=some (some (.builtin "BaseException.__getattribute__"))
 gt:findIn K (.ref C) "__getattr__"=some none
 cl:findIn K (.ref C) "__class__"=some (some (.builtin "object.__class__"))
 mo:mroIn K C (.type "object")=some true
 mb:subIn K (.ref C) (.type "BaseException")=some true
 is:(clsIn K C).isSome=true
end
end DL
end
section
namespace DL
open PySem Spec PyProof.Rows L2
end DL
end
section
namespace DL
open PySem Spec PyProof.Rows L2
section
variable {X:Cx}
noncomputable def chD (o o':D->D->Option R)(f g h:Dst->Option R):Dst->Option R:=λG=>(f G).bind λx=>(g G).bind λy=>match o x.1 y.1 with
 | some (.bl true,_)=>(h G).bind λz=>o' y.1 z.1
 | some (.bl false,_)=>some (.bl false,.cl)
 | _=>none
theorem zHo {r r':R2}{o o':D->D->Option R}{f g h:Dst->Option R}(ho:OpD X.K r o)(ho':OpD X.K r' o'){B:St}{H:Hp}{Q:VK}(q:gT X.K (chD o o' f g h) B H Q):zJI r r' (gT X.K f) (gT X.K g) (gT X.K h) B H Q:=by
 obtain⟨S,G,z,ds,e,c⟩:=q;obtain⟨x,ex,e⟩:=bind_some e;obtain⟨y,ey,e⟩:=bind_some e;refine⟨S,G,x,ds,ex,λvx H1 s1 r1=>⟨S,G,y,ds.mono s1,ey,λvy H2 s2 r2=>?_⟩⟩;split at e
 .rename_i k eo;obtain⟨w,ew,e⟩:=bind_some e;refine ho S H2 x.1 y.1 _ vx vy _ (ds.mono (s1.trans s2)).sok eo (r1.rd.mono s2) r2.rd λv H3 s3 r3=>⟨true,r3.rd.bl,?_⟩
  rw[if_pos rfl];refine⟨S,G,w,ds.mono (s1.trans (s2.trans s3)),ew,λvw H4 s4 r4=>?_⟩;exact ho' S H4 y.1 w.1 z vy vw Q (ds.mono (s1.trans (s2.trans (s3.trans s4)))).sok e (r2.rd.mono (s3.trans s4)) r4.rd λv' H5 s5 r5=>c v' H5 (s1.trans (s2.trans (s3.trans (s4.trans s5)))) (r5.from (s1.trans (s2.trans (s3.trans s4))))
 .rename_i k eo;cases e;refine ho S H2 x.1 y.1 _ vx vy _ (ds.mono (s1.trans s2)).sok eo (r1.rd.mono s2) r2.rd λv H3 s3 r3=>⟨false,r3.rd.bl,?_⟩
  rw[if_neg qY];exact c _ H3 (s1.trans (s2.trans s3)) (.bl _)
 .cases e
noncomputable def chB (op:CmpOp):Bool:=decide (op=.Lt)||decide (op=.LtE)||decide (op=.Gt)||decide (op=.GtE)
theorem zHu (h:chB op'=true):lastMarks [op,op'] [b,c]=false:=by
 unfold chB at h;simp only[Bool.or_eq_true,qj] at h;rcases h with ((h | h) | h) | h<;>subst h<;>(simp only[lastMarks];exact zDB c)
theorem zM6 (h1:OpR X (compareOp op) r)(h2:OpR X (compareOp op') r')(ho:OpD X.K r o)(ho':OpD X.K r' o')(hm:chB op'=true)
  (ha:GE X a f) (hb:GE X b g) (hc:GE X c h):GE X (.Compare a [op,op'] [b,c] pos) (chD o o' f g h)/\GT X (.Compare a [op,op'] [b,c] pos) (asB (chD o o' f g h)) :=
 ⟨(zMU h1 h2 ha hb hc (zHu hm)).imp λ_ _ _ q=>zHo ho ho' q,(zMP h1 h2 ha hb hc (zHu hm)).imp λ_ _ _ q=>zHo ho ho' (zG9 q)⟩
def zFw:D->Option R
 | .lst ds=>some (.tup ds,.cl)
 | .tup ds=>some (.tup ds,.cl)
 | _=>none
theorem zJw:OpD1 X.K (λxs H Q=>∃ p ys,xs=[.ref p]/\((SqL X.K H p ys/\∀ l,H l=none->Q (.ref l) (upd H l (.tup ys)))\/(SqT X.K H p ys/\Q (.ref p) H))) zFw:=by
 intro S H x z vx Q sok e rx c;unfold zFw at e;split at e
 .cases e;obtain⟨a,vs,rfl,h1,h2⟩:=rx.lst;exact⟨a,vs,rfl,.inl ⟨h1,λp n=>c _ _ (zAp n _) (.tupNew sok n h2)⟩⟩
 .cases e;rcases rx with h | ⟨a,vs,ds',h1,h2,_⟩
  .have h':=h;rw[Den] at h;obtain⟨a,vs,rfl,h1,h2⟩:=h;exact⟨a,vs,rfl,.inr ⟨Same.tupS zAq h1,c _ H (Same.refl _) h'⟩⟩
  .cases h2
 .cases e
theorem zNg:bootBuiltins "tuple"=some (.type "tuple"):=by decide +kernel
end
end DL
namespace DL
open PySem Spec PyProof.Rows L2
noncomputable def extD (i:Nat)(f:Dst->Option R):Dst->Option Out:=λG=>match G[i]? with
 | some (some (.lst xs,true))=>(f G).bind λr=>match r with
  | (.lst ys,.fr)=>if xs.length+ys.length<=10000 then some (.nx (G.set i (some (.lst (xs++ys),true)))) else none
  | _=>none
 | _=>none
theorem zSj (hi:X.N[i]?=some x)(hv:Vis X.env.scope x)(hd:(x==("__debug__":Str))=false)(hcd:(x==("__classdict__":Str))=false)(h:GE X e f)
  (he:starEach [e] X.env=[(false,eval e X.env)]) (hbase:attributeBase (.Name x npos) "extend" X.env (eval (.Name x npos) X.env)=eval (.Name x npos) X.env) (hline:(apos.endLine==cpos.line)=true) :
  GS X (.Expr (.Call (.Attribute (.Name x npos) "extend" apos) [e] [] cpos) pos) (extD i f):=λH0=>(zFS (zPH PySem.F.plainAttrs_list PySem.F.slot_list_extend PySem.F.type_list_extend zKH (zDg hi hv hd hcd) (zAY h zBC he) hbase (by rw[he];rfl) hline he rfl) rfl).imp λE B H zz72=>by
 obtain⟨S,G,o,ds,h0,e,p⟩:=zz72;unfold extD at e;split at e
 .rename_i xs q;obtain⟨r,er,e⟩:=bind_some e;split at e
  .rename_i ys;by_cases hl:xs.length+ys.length<=10000
   .rw [if_pos hl] at e;cases e;obtain⟨v,q1,q2⟩:=ds.get i _ true q;obtain⟨a,vs,es,rfl,e2,w1,w2,w3⟩:=q2.ownL rfl;cases e2;refine⟨.ref a,q1,.inl ⟨rfl,_,SqL.of w2⟩,S,G,_,ds,er,λy H1 s1 r1=>?_⟩;obtain⟨b,zs,ds',rfl,e3,nb,hb,hb',dl⟩:=r1;cases e3;have w3':=w3.mono (zAU s1 (S:=S));have dl':=dl.mono (zB4 (H:=H1) (S:=S) (T:=b::S) λc z=>qJ _ z);have l1:=w3.length;have l2:=dl.length;refine⟨a,b,vs,zs,rfl,rfl,s1 _ _ w2,hb',le_trans (show vs.length+zs.length<=10000 by omega) (by decide),?_⟩;have t:DenL X.K (hide H1 S) (xs++ys) (vs++zs):=w3'.append dl';have d2:=(ds.mono s1).change (i:=i) q q1 t;refine p S B _ d2 ?_;rw[zFe w1];exact h0.trans (zAU s1)
   .rw [if_neg hl] at e;cases e
  .cases e
 .cases e
end DL
namespace DL
open PySem Spec PyProof.Rows L2
section
variable {X:Cx}
structure Tgt (X:Cx)(i:Nat)(x:Str):Prop where
 at_:X.N[i]?=some x
 loc:Loc X.env.scope x
 fn:X.fn x=true\/X.env.scope.names.lookup x=some .local
end
end DL
end
section
namespace DL
open PySem
theorem zIk:typeLookup (.type "list_reverseiterator") "__len__"=pure none:=by rw[typeLookup_type,builtinLookup_eq_fast];kernel_rfl
theorem zMj:typeLookup (.type "list_reverseiterator") "__length_hint__"=pure (some (.builtin "list_reverseiterator.__length_hint__")):=by rw[typeLookup_type,builtinLookup_eq_fast];kernel_rfl
theorem zMi:isSubtype (.type "list_reverseiterator") (.type "list_reverseiterator")=pure true:=by rw[isSubtype_type];kernel_rfl
section
variable {prog:Program}{w:World}{A:Around}{E:Value->Shared->Prop}{s:Shared}{I l:Addr}{items:Array Value}
theorem zMu (hT:s.TypeIs (.ref I) "list_reverseiterator")(h:Q false s):wpAny M A (Builtin.List.listLengthHint (.ref I)) Q E s:=by
 unfold Builtin.List.listLengthHint;refine qX (wpAny_specialOf hT zIk ?_);show wpAny _ A (specialOf (Value.ref I) (Str.ofString "__length_hint__")>>=_) _ _ _;refine qX (wpAny_specialOf hT zMj ?_);have hs:splitId "list_reverseiterator.__length_hint__"=some ("list_reverseiterator","__length_hint__"):=by decide +kernel
 simp only[hs];unfold isInstance;refine qX (qX (wpAny_typeOf hT (wpAny_of_eq zMi ?_)));rw[if_neg (show ¬ ((!true)=true) by decide)];rw[if_pos (by decide +kernel)];rw[if_neg (by decide +kernel)];exact q9 h
theorem zFq (hh:A.handled=none)(hne:l≠I)(hit:s.heap.IsRevIter I l ((items.size:Int) - 1))(hl:s.heap.IsList l items)(hn:items.size<=10000)
  (hQ:∀ s' acc' c',Moved (s.heap.objs.size::[I]) (λa b=>b=a) { s with heap:=s.heap.push { cls:=.type "list",data:=.seq #[] } } s' ->
   s'.heap.get? s.heap.objs.size=some { cls:=.type "list",dict:=none,data:=.seq acc' c',slots:=#[] }->ItemsOf (λi v=>items[items.size - 1 - i]?=some v) acc' items.size->Q (.ref s.heap.objs.size) s') :
  wpAny (model prog w) A (call (.type "list") [.ref I]) Q E s:=by
 have W:=(Walks.listRev (prog:=prog) (w:=w) (A:=A.in1.in1) hh I l hne items).toS;have hst:(items.size:Nat)>=0/\True:=⟨zero_le _,trivial⟩;have st0:(λ(i:Nat) (s:Shared)=>i<=items.size/\s.heap.IsRevIter I l ((items.size:Int) - 1 - (i:Int))/\s.heap.IsList l items) 0 s:=⟨zero_le _,by simpa using hit,hl⟩;have ltI:I < s.heap.objs.size:=by obtain⟨o,e,_⟩:=hit;exact lt_size e
 have ltl:l < s.heap.objs.size:=by obtain⟨o,e,_⟩:=hl;exact lt_size e
 have hSf:s.heap.objs.size∉[I,l]:=λhm=>by
  rcases mem_cons.mp hm with e | e
  .exact lt_irrefl _ (e▸ltI)
  .exact lt_irrefl _ ((mem_singleton.mp e)▸ltl)
 have hs:items.size<=sizeLine:=le_trans hn (by decide);refine callType_codes (Q₁:=λobj O2=>obj=.ref s.heap.objs.size/\O2={ s with heap:=s.heap.push { cls:=.type "list",data:=.seq #[] } }) F.called_list (F.typeCall_list_1 _) F.entry_list_init
  (code_list_new _ ⟨rfl,rfl⟩) λobj O2 O7=>?_
 obtain⟨rfl,rfl⟩:=O7;have hS:(s.heap.push { cls:=.type "list",data:=.seq #[] }).get? s.heap.objs.size=some { cls:=.type "list",data:=.seq #[] }:=get?_push_size _ rfl;refine⟨⟨_,hS,rfl⟩,F.args_list_init_2 _ _,?_⟩;show wpAny _ A.in1.in1 (do let old<-Builtin.List.listItems (.ref s.heap.objs.size);Builtin.List.listUpdate (.ref s.heap.objs.size) (λ_=>#[]);letGo old.toList.reverse;Builtin.List.listExtendWith (.ref s.heap.objs.size) (.ref I) .none) _ _ _;refine qX ?_;unfold Builtin.List.listItems;refine qX (wpAny_seqItems hS rfl (q9 ?_));show wpAny _ A.in1.in1 (updateSeq s.heap.objs.size (λ_=>#[])>>=λ_=>letGo (#[]:Array Value).toList.reverse>>=λ_=>Builtin.List.listExtendWith (.ref s.heap.objs.size) (.ref I) .none) _ _ _;refine qX (wpAny_updateSeq hS rfl ?_);have hS2:=Heap.get?_update_self (Obj.mapSeq (λ_=>(#[]:Array Value))) hS rfl;refine qX (wpAny_letGo ?_);have oth:∀ b o,b≠s.heap.objs.size->(s.heap.push { cls:=.type "list",data:=.seq #[] }).get? b=some o->((s.heap.push { cls:=.type "list",data:=.seq #[] }).update s.heap.objs.size (Obj.mapSeq (λ_=>(#[]:Array Value)))).get? b=some o :=
  λb o hb e=>(Heap.get?_update_other _ _ (Ne.symm hb)).trans e
 have kp:∀ (b:Nat) o,s.heap.get? b=some o->((s.heap.push { cls:=.type "list",data:=.seq #[] }).update s.heap.objs.size (Obj.mapSeq (λ_=>(#[]:Array Value)))).get? b=some o:=λb o e=>oth b o (ne_of_lt (lt_size e)) (get?_push_of_some _ e)
 have hit2:=hit.at (h':=(s.heap.push { cls:=.type "list",data:=.seq #[] }).update s.heap.objs.size (Obj.mapSeq (λ_=>(#[]:Array Value)))) λo e=>kp I o e
 have hT:({ s with heap:=(s.heap.push { cls:=.type "list",data:=.seq #[] }).update s.heap.objs.size (Obj.mapSeq (λ_=>(#[]:Array Value))) }:Shared).TypeIs (.ref I) "list_reverseiterator":=hit2.typeIs;have st2:=W.frame 0 s ((s.heap.push { cls:=.type "list",data:=.seq #[] }).update s.heap.objs.size (Obj.mapSeq (λ_=>(#[]:Array Value)))) s.toks st0 (le_refl _) λb hb o e=>kp b o e
 unfold Builtin.List.listExtendWith;refine qX (wpAny_typeOf hT ?_);have q1:Builtin.List.listSameRef (.ref s.heap.objs.size) (.ref I)=false:=by
  have:s.heap.objs.size≠I:=Nat.ne_of_gt ltI;simp[Builtin.List.listSameRef,this]
 have q2:(Value.type "list_reverseiterator"==Value.type "list")=false:=by decide
 have q3:(Value.type "list_reverseiterator"==Value.type "tuple")=false:=by decide
 simp only[q1,q2,q3,Bool.or_false,Bool.false_eq_true,if_false];refine qX (W.self 0 _ _ _ st2 ?_);refine qX (wpAny_holding (zMu hT ?_));rw[if_neg (by decide +kernel)];refine q9 ⟨plainId_quiet F.plain_extend_loop _,codeAny_extend_loopS W hs _ hSf _ items.size 0 _ _ _ rfl (zero_le _) st2 hS2 (ItemsOf.nil _) λs' acc' c' hm hS' hacc=>?_⟩;have m1:Moved (s.heap.objs.size::[I]) (λa b=>b=a) { s with heap:=s.heap.push { cls:=.type "list",data:=.seq #[] } } { s with heap:=(s.heap.push { cls:=.type "list",data:=.seq #[] }).update s.heap.objs.size (Obj.mapSeq (λ_=>(#[]:Array Value))) } :=
  ⟨λb o hb e=>oth b o (λh=>hb (by rw[h];exact q8)) e,rfl,rfl,rfl,le_refl _⟩
 exact⟨rfl,hQ s' acc' c' (Moved.trans W.gtrans m1 hm) hS' hacc⟩
end
end DL
namespace DL
open PySem Spec PyProof.Rows L2
theorem zL9 (h:Vals xs us):Vals xs.reverse us.reverse:=by
 induction h with
 | nil=>exact .nil
 | cons r t ih =>
  rw[reverse_cons,reverse_cons];exact ih.append (.cons r .nil)
theorem DenL.rev {K:W.Frag}:∀ {ds:List D} {vs:List V},DenL K H ds vs->DenL K H ds.reverse vs.reverse
 | [],_,h=>by rw[DenL] at h;subst h;exact .nil
 | d::ds,_,h=>by
  rw[DenL] at h;obtain⟨v,ws,rfl,h1,h2⟩:=h;rw[reverse_cons,reverse_cons];exact(DenL.rev h2).append (.cons h1 .nil)
theorem zNh:bootBuiltins "reversed"=some (.type "reversed"):=by decide +kernel
noncomputable def revD:D->Option R
 | .lst xs=>if xs.length<=10000 then some (.lst xs.reverse,.fr) else none
 | _=>none
section
variable {X:Cx}
theorem zKa {its:List Value}(h:ItemsOf (λi v=>its.toArray[its.toArray.size - 1 - i]?=some v) acc its.toArray.size):acc=its.reverse.toArray:=by
 apply Array.ext';apply ext_getElem?;intro j;obtain⟨h1,h2⟩:=h;have h3:acc.size=its.length:=h1.trans (by simp);by_cases hj:j < acc.size
 .have e:=h2 j _ (Array.getElem?_eq_getElem hj);rw[Array.getElem?_toList,Array.getElem?_eq_getElem hj];rw[xy,List.getElem?_toArray] at e;show _=its.reverse[j]?;rw[List.getElem?_reverse (by omega)];exact e.symm
 .rw [Array.getElem?_toList,Array.getElem?_eq_none (by omega)];show _=its.reverse[j]?;rw[getElem?_eq_none (by rw[List.length_reverse];omega)]
theorem zIu (hcalm:X.calm=true)(hgl:Gl X "list")(hml:X.mg "list"=none)(hgz:Gl X "reversed")(hmz:X.mg "reversed"=none)(ha:GE X a f)
  (hs:starEach [a] X.env=[(false,eval a X.env)]) :
  GE X (.Call (.Name "list" p) [.Call (.Name "reversed" p2) [a] [] pos2] [] pos) (one f revD):=by
 intro pins s B H Q I ⟨S,G,r,ds,e,c⟩;obtain⟨x,ex,e⟩:=bind_some e;unfold revD at e;split at e
 .rename_i xs exs;by_cases ok:xs.length<=10000
  .rw [if_pos ok] at e;cases e;refine wpAny_Call_Name_kw (zCv I hgl hml boot_list ?_ (by decide) (by decide));refine PyProof.Rows.callWith_type1 ?_ rfl rfl;show wpAny _ _ (spliced ((false,eval (.Call (.Name "reversed" p2) [a] [] pos2) X.env)::[])) _ _ s;refine Calls.spliced_cons ?_;refine wpAny_Call_Name_kw (zCv I hgz hmz zNh ?_ (by decide) (by decide));refine PyProof.Rows.callWith_type1 (thn ((zAY ha zBC hs) pos2 pins s B H (λvs H2=>∃ vx,vs=[vx]/\Same H H2/\Rdv X.K H2 S x.1 vx) I
    ⟨S,G,x,ds,ex,λvx H1 s1 r1=>⟨vx,rfl,s1,r1.rd⟩⟩) λus s1 ⟨vs,H1,I1,r1,q1⟩=>?_) hs rfl
   obtain⟨vx,rfl,sm,dx⟩:=q1;rw[exs] at dx;obtain⟨l1,v1,rfl,w1,d1⟩:=dx.lst;obtain⟨u1,rfl,ru1⟩:=zGm r1;cases ru1;obtain⟨its1,rv1,p1,z1⟩:=I1.list w1;have n1:xs.length=v1.length:=d1.length;have m1:=rv1.length;have lt1:l1 < s1.heap.objs.size:=by obtain⟨o,q,_⟩:=p1.isList;exact lt_size q
   refine call_reversed_list p1.isList ?_;refine Calls.spliced_nil ?_;have kq:∀ b o,s1.heap.get? b=some o->(s1.heap.push (revObj l1 ((its1.toArray.size:Int) - 1))).get? b=some o:=λb o q=>get?_push_of_some _ q
   refine zFq (s:={ s1 with heap:=s1.heap.push (revObj l1 ((its1.toArray.size:Int) - 1)) }) (I:=s1.heap.objs.size) (l:=l1) (items:=its1.toArray) (I1.ok.hd hcalm) (ne_of_lt lt1) ⟨_,get?_push_size _ rfl,rfl,rfl⟩ (p1.isList.at λo q=>kq _ o q) (by rw[xy];omega) λs' acc c' mv hlst hit=>?_
   have sz:({ s1 with heap:=s1.heap.push (revObj l1 ((its1.toArray.size:Int) - 1)) }:Shared).heap.objs.size=s1.heap.objs.size+1:=Heap.size_push _ _;rw[sz] at mv hlst ⊢;obtain rfl:=zKa hit;have kp:∀ b o,s1.heap.get? b=some o->s'.heap.get? b=some o:=λb o q=>by
    have hb:b < s1.heap.objs.size:=lt_size q;refine mv.heap b o (λz=>?_) (get?_push_of_some _ (kq b o q));rcases mem_cons.mp z with z | z
    .exact absurd hb (by rw[z];exact Nat.not_lt.mpr (Nat.le_succ _))
    .exact absurd hb (by rw[mem_singleton.mp z];exact lt_irrefl _)
   have es:s'={ s1 with heap:=s'.heap,toks:=s'.toks }:=by
    obtain⟨h',g',d',t',o'⟩:=s';have e1:g'=s1.gens:=mv.gens;have e2:d'=s1.drawn:=mv.drawn;have e3:o'=s1.os:=mv.os;subst e1 e2 e3
    rfl
   have fr:H1 (s1.heap.objs.size+1)=none:=I1.hok.fresh (Nat.le_succ _);have I2:Inv X pins B (upd H1 (s1.heap.objs.size+1) (.lst v1.reverse)) { s1 with heap:=s'.heap,toks:=s'.toks } :=
    I1.laid kp (Nat.le_succ _) (show zBm X.prog X.w _ _ _ (.lst v1.reverse) from ⟨by rw[List.length_reverse];exact z1,its1.reverse,c',zL9 rv1,hlst⟩)
   rw[es];refine⟨.ref (s1.heap.objs.size+1),_,I2,rfl,c _ _ (sm.trans (zAp fr _)) (.lstNew sm (ds.mono sm).sok fr d1.rev)⟩
  .rw [if_neg ok] at e;cases e
 .cases e
end
end DL
end
section
namespace DL
open PySem Spec PyProof.Rows L2
section
variable {X:Cx}
def augI:Operator->Int->Int->Option Int
 | .Add,a,b=>some (a+b)
 | .Sub,a,b=>some (a - b)
 | _,_,_=>none
noncomputable def augD (op:Operator)(i:Nat)(f:Dst->Option R):Dst->Option Out:=λG=>match G[i]? with
 | some (some (.int a,false))=>(f G).bind λr=>match r.1 with
  | .int b=>(augI op a b).bind λc=>some (.nx (G.set i (some (.int c,false))))
  | _=>none
 | _=>none
theorem zSk (hN:X.N.Nodup)(hi:X.N[i]?=some x)(hx:Loc X.env.scope x)(h:GE X e f)(hf:X.fn x=true\/X.env.scope.names.lookup x=some .local) :
  GS X (.AugAssign (.Name x pos') op e pos) (augD op i f):=λH0=>by
 have go:∀ (g:Int->Int->Int),(∀ a b,augI op a b=some (g a b))->OpR X (inplaceOp op) (rI0 λi j=>.int (g i j))->PS X (.AugAssign (.Name x pos') op e pos) (gS X.K H0 (augD op i f)):=λg hg ho=>(zRc hN hi hx h (λpins s B H x y v u Q I rx ry q=>ho pins s B H x y v u Q I rx ry q) hf).imp λE B H zz73=>by
  obtain⟨S,G,o,ds,h0,e,p⟩:=zz73;unfold augD at e;split at e
  .rename_i a q;obtain⟨r,er,e⟩:=bind_some e;obtain⟨d,k⟩:=r;split at e
   .rename_i b eb;rw[hg] at e;cases e;dsimp only at eb;subst eb;obtain⟨v,q1,q2⟩:=ds.get i _ _ q;have q3:=q2.den rfl;rw[Den] at q3;subst q3;refine⟨_,q1,S,G,_,ds,er,λy H1 s1 r1=>⟨a,b,rfl,r1.rd.int,?_⟩⟩;exact p S _ H1 ((ds.mono s1).set (by rw[Den])) (h0.trans (zAU s1))
   .cases e
  .cases e
 have no:(∀ a b,augI op a b=none)->PS X (.AugAssign (.Name x pos') op e pos) (gS X.K H0 (augD op i f)):=λhn=>(zFR (X:=X)).imp λE B H zz74=>by
  obtain⟨S,G,o,ds,h0,e,p⟩:=zz74;unfold augD at e;split at e
  .obtain ⟨r,er,e⟩:=bind_some e;split at e
   .rw [hn] at e;cases e
   .cases e
  .cases e
 cases op with
 | Add=>exact go (·+·) (λ_ _=>rfl) zPx
 | Sub=>exact go (· - ·) (λ_ _=>rfl) zPw
 | _=>exact no λ_ _=>rfl
theorem zC6:∀ {ns:List Int} {its:List Value},Vals (ns.map V.int) its->∃ ps:List (Int×Tok),its=ps.map (λp=>Value.int p.1 p.2)/\ps.map (·.1)=ns
 | [],[],_=>⟨[],rfl,rfl⟩
 | n::ns,_::_,.cons r t=>by
  obtain⟨ps,rfl,e2⟩:=zC6 t;obtain⟨tk,rfl⟩:=r;exact⟨(n,tk)::ps,rfl,by rw[map_cons,e2]⟩
end
section
variable {X:Cx}
theorem RV.str {K:W.Frag}(x:Str):RV K H H' S (.str x,.cl) (.str x):=by show Den _ _ _ _;rw[Den]
inductive T1 where
 | str | int | all | len
 deriving DecidableEq
def T1.nm:T1->Str
 | .str => "str"
 | .int => "int"
 | .all => "all"
 | .len => "len"
inductive T2 where
 | add | inn | ix | drp | sw | spl | join | zf | fs (x:Str)
noncomputable def txtD:D->Option Str
 | .int i=>if i.natAbs.log2 < 1920 then some (Str.ofString (toString i)) else none
 | .str x=>if x.length<=10000 then some x else none
 | _=>none
noncomputable def fsD (m:Str)(x y:D):Option R:=(txtD x).bind λa=>(txtD y).bind λb=>if a.length+m.length+b.length<=10000 then some (.str (a++m++b),.cl) else none
end
section
variable {X:Cx}
noncomputable def anyS (sub:Str->Str->Option Bool)(c:Str):List Str->Option Bool
 | []=>some false
 | y::ys=>match sub y c with
  | some true=>some true
  | some false=>anyS sub c ys
  | none=>none
inductive ClsT (X:Cx) (sub:Str->Str->Option Bool):List Str->List Expr->List V->List Value->Prop
 | nil:ClsT X sub [] [] [] []
 | cons {y:Str} {ys:List Str} {p:Pos} {es:List Expr} {v:V} {vs:List V} {u:Value} {us:List Value}:(∀ u',RelV v u'->u'=u)->PE X (.Name y p) (tC v)->(∀ c b,sub y c=some b->∀ C,zCS X.K c C->XCls X.K C/\W.kitOne X.K (.ref C) u=some b) ->
   ClsT X sub ys es vs us->ClsT X sub (y::ys) (.Name y p::es) (v::vs) (u::us)
theorem ClsT.pa (h:ClsT X sub ys es vs us):PA X es (λ_ H Q=>Q vs H):=by
 induction h with
 | nil=>exact zBC
 | cons h1 h2 h3 h4 ih=>exact zAY h2 ih rfl
theorem ClsT.us {vs:List V}{us ws:List Value}(h:ClsT X sub ys es vs us)(r:Vals vs ws):ws=us:=by
 induction h generalizing ws with
 | nil=>cases r;rfl
 | cons h1 h2 h3 h4 ih =>
  cases r with
  | cons r1 r2=>rw[h1 _ r1,ih r2]
theorem ClsT.any {vs:List V}{us:List Value}(h:ClsT X sub ys es vs us){c:Str}{C:Addr}(q:zCS X.K c C):∀ {b:Bool},anyS sub c ys=some b->W.kitAny X.K (.ref C) us=some b:=by
 induction h with
 | nil=>intro b e;exact e
 | cons h1 h2 h3 h4 ih =>
  intro b e;unfold anyS at e;unfold W.kitAny;split at e
  .rename_i e1;rw[(h3 c true e1 C q).2];exact e
  .rename_i e1;rw[(h3 c false e1 C q).2];exact ih e
  .cases e
theorem ClsT.len {es:List Expr}{vs:List V}{us:List Value}(h:ClsT X sub ys es vs us):vs.length=ys.length:=by
 induction h with
 | nil=>rfl
 | cons h1 h2 h3 h4 ih=>rw[xY,xY,ih]
def rRep (K:W.Frag):R2:=λx y H Q=>∃ l xs i,x=.ref l/\y=.int i/\SqL K H l xs/\0<=i/\i<=10000/\xs.length*i.toNat<=10000/\∀ p,H p=none->Q (.ref p) (upd H p (.lst (List.replicate i.toNat xs).flatten))
theorem zHY (h:Vals vs us):∀ n:Nat,Vals (List.replicate n vs).flatten (List.replicate n us).flatten
 | 0=>.nil
 | n+1=>by rw[replicate_succ,flatten_cons,replicate_succ,flatten_cons];exact h.append (zHY h n)
theorem zLZ {K:W.Frag}(h:DenL K H ds vs):∀ n:Nat,DenL K H (List.replicate n ds).flatten (List.replicate n vs).flatten
 | 0=>.nil
 | n+1=>by rw[replicate_succ,flatten_cons,replicate_succ,flatten_cons];exact h.append (zLZ h n)
theorem zG5 {U:Type}(xs:List U):∀ n:Nat,(List.replicate n xs).flatten.length=xs.length*n
 | 0=>by simp
 | n+1=>by rw[replicate_succ,flatten_cons,qQ,zG5 xs n,Nat.mul_succ];omega
theorem zRs:OpR X (binaryOp .Mult) (rRep X.K):=by
 intro pins s B H x y v u Q I rx ry h;obtain⟨l,xs,i,rfl,rfl,hl,h0,h1,hz,q⟩:=h;cases rx;obtain⟨t,rfl⟩:=ry;obtain⟨its,rv,⟨⟨cls,dd,data,sl⟩,n,e1,e2,e3,e4⟩,z1⟩:=I.list hl;simp only at e2 e3 e4;subst e2 e4;have hsz:its.toArray.size*i.toNat<=10000:=by rw[xy,<- rv.length];exact hz
 refine wpAny_binaryOp_repeat_ref (T := "list") (U := "int") (by decide) ⟨_,e1,rfl⟩ (λs'=>typeIs_int s' i t) noFill_list_mul F.fills_int_mul F.slot_int_rmul repeat_list F.slot_int_index.lookup ?_;refine call_meets F.slot_int_rmul (typeIs_int s i t) F.entry_int_rmul (F.args_int_rmul_2 _ _) (lm_int_rmul_list_any i t l _ n dd sl) ⟨e1,rfl,⟨_,e1,rfl⟩,?_⟩;refine call_meets F.slot_list_mul ⟨_,e1,rfl⟩ F.entry_list_mul (F.args_list_mul_2 _ _) (lm_list_mul_any l _ n dd sl i t (by simp[Builtin.List.listFitsIndex];omega) (by omega) (by simp[Builtin.List.listTooLong,sizeLine];rw[xy] at hsz;omega)) ⟨e1,?_⟩;rw[listMul_foldl_if];exact⟨.ref _,_,I.lnew (t':=s.toks) (zHY rv i.toNat) (by rw[zG5];exact zCs hz),rfl,q _ I.fresh⟩
end
end DL
end
section
namespace L2
open PySem Spec PyProof.Rows
abbrev KT (H:Hp):List (List Key×V)->List (List Key×Addr×Value)->Prop:=Paired λp q=>p.1=q.1/\H q.2.1=some (.tup (p.1.map kV))/\RelV p.2 q.2.2
theorem KT.keeps (r:KT H kvs xs)(ht:∀ b ys,H b=some (.tup ys)->H' b=some (.tup ys)):KT H' kvs xs :=
 Paired.mapP r λ_ _ z=>⟨z.1,ht _ _ z.2.1,z.2.2⟩
section
variable {X:Cx}{pins:List (Addr×Obj)}{B:St}{H:Hp}{s:Shared}{a:Addr}{y v:V}{u r:Value}{o:Option V}{A:Around}{E:Value->Shared->Prop}
theorem Inv.big (I:Inv X pins B H s):sysModules < s.heap.objs.size:=by
 have h:mainGlobals < s.heap.objs.size:=(I.mod.glob.keeps I.bk).lt;exact Nat.lt_trans (by decide) h
end
end L2
end
section
namespace DL
open PySem Spec PyProof.Rows L2
variable {X:Cx}
end DL
end
section
namespace DL
open PySem Spec PyProof.Rows L2
theorem zEQ (e:h.get? b=some o):zBm P w H h b (.frz o anyU):=⟨e,True.intro,⟨o,e⟩,λ_ _ _ _=>True.intro⟩
theorem zO1 (hS:∀ b∈S,∃ o,H b=some (.frz o anyU))(nf:∀ b∈S,b∉fs)(hok:HOk P w H h)(un:Un fs [] (hide H S) H2 h h')(hok2:HOk P w H2 h') :
  ∃ H':Hp,(∀ b∈S,H' b=H b)/\(∀ b,b∉S->H' b=H2 b)/\Same H2 H'/\(∀ b∈S,H2 b=none)/\Un fs [] H H' h h'/\HOk P w H' h':=by
 have there:∀ {b:Addr},b∈S->∃ o,H b=some (.frz o anyU)/\h'.get? b=some o/\H2 b=none:=λ{b} z=>by
  obtain⟨o,e⟩:=hS b z;obtain⟨e1,_⟩:=hok b _ e;exact⟨o,e,un.keep b o e1 (zCG z) (nf b z) (by simp),un.free b o e1 (zCG z) (by simp)⟩
 have nS:∀ {b:Addr} {u:HO},H2 b=some u->b∉S:=λ{b u} e z=>by
  obtain⟨_,_,_,q⟩:=there z;rw[q] at e;cases e
 have nN:∀ {b:Addr},H b=none->b∉S:=λ{b} e z=>by
  obtain⟨_,q,_⟩:=there z;rw[q] at e;cases e
 have hid:∀ {b:Addr},b∉S->hide H S b=H b:=λz=>zAT z
 obtain⟨H',hin,hout⟩:∃ H':Hp,(∀ b∈S,H' b=H b)/\(∀ b,b∉S->H' b=H2 b):=⟨λb=>if b∈S then H b else H2 b,λb z=>if_pos z,λb z=>if_neg z⟩;have sm:Same H2 H':=λb u e=>by rw[hout b (nS e)];exact e
 refine⟨H',hin,hout,sm,λb z=>(there z).choose_spec.2.2,⟨λb o e n=>un.keep b o e (by rw[hid (nN n)];exact n),λb o e n=>un.slot b o e (by rw[hid (nN n)];exact n),λb o e n hx=>?_,un.there,λb xs e=>?_,λb o u e=>?_,λb q e=>?_⟩,λb u e=>?_⟩
 .rw [hout b (nN n)];exact un.free b o e (by rw[hid (nN n)];exact n) hx
 .have z:b∉S:=λz=>by obtain⟨_,q,_⟩:=there z;rw[q] at e;cases e
  rw[hout b z];exact un.tups b xs (by rw[hid z];exact e)
 .by_cases z:b∈S
  .rw [hin b z];exact e
  .rw [hout b z];exact un.frzs b o u (by rw[hid z];exact e)
 .have z:b∉S:=λz=>by obtain⟨_,q,_⟩:=there z;rw[q] at e;cases e
  rw[hout b z];exact un.tbls b q (by rw[hid z];exact e)
 .by_cases z:b∈S
  .obtain ⟨o,q,g,_⟩:=there z;rw[hin b z,q] at e;cases e;exact zEQ g
  .rw [hout b z] at e;exact(hok2 b u e).stay (λ_ _ _ q=>q) (λ_ q=>sm _ _ q) (λ_ _ q=>sm _ _ q) λ_ _ _ q _=>sm _ _ q
theorem zMt (hS:∀ b∈S,∃ o v,H b=some (.frz o anyU)/\o.data=.cell v)(hok:HOk P w H h):HOk P w (hide H S) h:=λb u e=>by
 obtain⟨nb,e1⟩:=zA7 e;have keep:∀ {c:Addr} {v:HO},H c=some v->(∀ o,v≠.frz o anyU)->hide H S c=some v:=λ{c v} q n=>by
  rw[zAT λz=>?_]
  .exact q
  .obtain ⟨o,_,q2,_⟩:=hS c z;rw[q] at q2;exact n o (xj q2)
 refine(hok b u e1).stay (λ_ _ _ q=>q) (λc q=>keep q λo z=>nomatch z) (λc xs q=>keep q λo z=>nomatch z) λc ob v q zz75=>?_
 obtain⟨vs,d⟩:=zz75;rw[zAT λz=>?_]
 .exact q
 .obtain ⟨o,cv,q2,d2⟩:=hS c z;rw[q] at q2;cases q2;rw[d] at d2;cases d2
theorem zBa.get:∀ {H:Hp} {cl:List (Str×Addr)} {vs:List V},zBa H cl vs->∀ {i:Nat} {v:V},vs[i]?=some v->∃ p o u,cl[i]?=some p/\H p.2=some (.frz o anyU)/\o.data=.cell (some u)/\RelV v u
 | _,_,_,.nil,i,v,e=>by simp at e
 | H,_,_,.cons (a:=p) (b:=v0) ⟨o,u,h1,h2,h3⟩ t,i,v,e=>by
  cases i with
  | zero=>simp at e;subst e;exact⟨p,o,u,by simp,h1,h2,h3⟩
  | succ i =>
   obtain⟨p',o',u',e1,e2⟩:=zBa.get (H:=H) t (i:=i) (v:=v) (by simpa using e);exact⟨p',o',u',by simpa using e1,e2⟩
theorem zBa.mem (h:zBa H cl vs):∀ p∈cl,∃ o u,H p.2=some (.frz o anyU)/\o.data=.cell (some u):=by
 induction h with
 | nil=>intro p hp;exact absurd hp (by simp)
 | cons r t ih =>
  intro p hp;rcases mem_cons.mp hp with rfl | hp
  .obtain ⟨o,u,h1,h2,_⟩:=r;exact⟨o,u,h1,h2⟩
  .exact ih p hp
def zTX (P:Program)(w:World)(K:W.Frag)(mg:Str->Option Value)(base:Heap)(N:List Str)(L:LamI)(f c:Addr)(cl:List (Str×Addr))(A:Around)(outer:List Env)(s:Shared)(H:Hp):Cx where
 prog:=P
 w:=w
 K:=K
 mg:=mg
 base:=base
 A:=A.deeper (W.envX L.qual L.scope s.heap.objs.size f (.ref c) cl)
 N:=N
 s0:=s
 Y3:=H
 env:=W.envX L.qual L.scope s.heap.objs.size f (.ref c) cl
 outer:=outer
 stack:=W.envX L.qual L.scope s.heap.objs.size f (.ref c) cl::outer
 ex:=[]
 calm:=true
 fn:=λ_=>false
 pn:=[]
 xe:=λ_ _=>False
structure zHX (x:Str)(ys:List Str)(L:LamI):Prop where
 kind:L.scope.kind=.function
 co:L.scope.isCoroutine=false
 gen:L.scope.isGenerator=false
 nd:(x::ys).Nodup
 par:L.scope.names.lookup x=some .local
 fr:∀ y∈ys,L.scope.names.lookup y=some .free
 all:∀ y,L.scope.names.lookup y=some .free->y∈ys
 nocell:∀ y∈L.scope.names,y.2≠.cell
 bind:∀ cl pm c ctv u,bindArgs (W.kla_fn "<lambda>" L.qual L.params L.body L.scope cl pm c ctv) ⟨[u],[]⟩=pure [(x,u)]
theorem zGK {ys:List Str}:∀ {cl:List (Str×Addr)},cl.map (·.1)=ys->ys.Nodup->∀ {i:Nat} {p:Str×Addr},cl[i]?=some p->cl.lookup p.1=some p.2/\ys[i]?=some p.1:=λ{cl} h nd {i p} e=>by
 refine⟨?_,by rw[<- h,List.getElem?_map,e];rfl⟩;subst h
 induction cl generalizing i with
 | nil=>simp at e
 | cons q cl ih =>
  rw[map_cons,nodup_cons] at nd;cases i with
  | zero=>simp at e;subst e;rw[lookup_cons,beq_self_eq_true]
  | succ i =>
   have e':cl[i]?=some p:=by simpa using e
   have ne:(p.1==q.1)=false:=beq_eq_false_iff_ne.mpr λz=>nd.1 (by rw[<- z];exact mem_map.mpr ⟨p,mem_of_getElem? e',rfl⟩)
   rw[lookup_cons,ne];exact ih e' nd.2
theorem zPy {P:Program}{w:World}{K:W.Frag}{mg:Str->Option Value}{base:Heap}{x:Str}{ys:List Str}{L:LamI}{f c:Addr}{cl:List (Str×Addr)}{A:Around}{outer:List Env}{s:Shared}{H:Hp}{u:Value}{v:V}{vs:List V}{O7:Heap}
  (S:zHX x ys L) (hd:A.handled=none) (hdp:A.depth+1+Builtin.pylongFrames < recursionLimit) (e0:Env0 P w K mg base A outer s H) (r:RelV v u) (hy:cl.map (·.1)=ys) (hnd:(cl.map (·.2)).Nodup) (hc:zBa H cl vs)
  (hns:O7.Ns s.heap.objs.size (λy=>([(x,u)]:List (Str×Value)).reverse.lookup y)) (hsb:Heap.SameBut s.heap.objs.size (s.heap.push { cls:=.type "frame",data:=.dict #[] }) O7) (tk:Nat) :
  Inv (zTX P w K mg base (x::ys) L f c cl A outer s (hide H (cl.map (·.2)))) [] (some v::vs.map some) (hide H (cl.map (·.2))) { s with heap:=O7,toks:=tk }:=by
 have hk:∀ b o,s.heap.get? b=some o->O7.get? b=some o:=λb o e=>hsb.extBut b o (ne_of_lt (lt_size e)) (get?_push_of_some _ e)
 have hS:∀ b∈cl.map (·.2),∃ o v,H b=some (.frz o anyU)/\o.data=.cell v:=λb z=>by
  obtain⟨p,hp,rfl⟩:=mem_map.mp z;obtain⟨o,u,h1,h2⟩:=hc.mem p hp;exact⟨o,_,h1,h2⟩
 have hok:=zMt hS e0.hok;have none_of:∀ {b:Addr},H b=none->hide H (cl.map (·.2)) b=none:=λ{b} q=>by
  by_cases z:b∈cl.map (·.2)
  .exact zCG z
  .rw [zAT z];exact q
 have lk:∀ {y:Str} {c':Addr},cl.lookup y=some c'->(y,c')∈cl:=λe=>PySem.mem_of_lookup e
 have cell:∀ {y:Str} {c':Addr},(y,c')∈cl->∃ cv,O7.IsCell c' cv:=λ{y c'} m=>by
  obtain⟨o,u,h1,h2⟩:=hc.mem _ m;obtain⟨e1,_⟩:=e0.hok _ _ h1;exact⟨_,o,hk _ _ e1,h2⟩
 have nodupY:ys.Nodup:=(nodup_cons.mp S.nd).2;have nx:x∉ys:=(nodup_cons.mp S.nd).1;have noA:∀ b:Addr,b∉([]:List Addr):=λb z=>absurd z (by simp)
 have lv:vs.length=cl.length:=(Paired.length hc).symm;refine⟨⟨e0.mod,S.kind,rfl,rfl,le_refl _,λy z c' h1 h2=>?_,λy hy'=>?_,λy c' q _=>(by cases q),λ_=>hd,Around.frames_deeper e0.frames,.inr ⟨rfl,rfl⟩,λb z=>absurd z (noA b),λb o e=>⟨(e0.bs b o e).1,none_of (e0.bs b o e).2⟩,e0.bsz,λb _ _=>noA b,λb z=>absurd z (noA b),e0.funs,λb z=>none_of (e0.frf b z),⟨hdp,e0.tree,_,_,rfl,S.gen,S.co,rfl,rfl⟩,λy hy' c' P' e=>?_⟩,
  rfl,e0.bare,Un.kept hk,⟨_,hns,λi y v' h1 h2 h3=>?_⟩,λy c' h=>cell (lk h),e0.hok.fresh (le_refl _) |> none_of,λy c' h=>zCG (mem_map.mpr ⟨_,lk h,rfl⟩),λp hp=>absurd (show p∈([]:List (Addr×Obj)) from hp) (by simp),hok.kept hk,?_⟩
 .-- the cells are apart
  have a1:=lk h1;have a2:=lk h2;have key:∀ {l:List (Str×Addr)},(l.map (·.2)).Nodup->∀ {p q:Str×Addr},p∈l->q∈l->p.2=q.2->p=q:=by
   intro l nd
   induction l with
   | nil=>intro p q hp;exact absurd hp (by simp)
   | cons a l ih =>
    intro p q hp hq e;rw[map_cons,nodup_cons] at nd;rcases mem_cons.mp hp with e1 | hp2
    .rcases mem_cons.mp hq with e2 | hq2
     .rw [e1,e2]
     .rw [e1] at e;exact absurd (show a.2∈l.map (·.2) from mem_map.mpr ⟨q,hq2,e.symm⟩) nd.1
    .rcases mem_cons.mp hq with e2 | hq2
     .rw [e2] at e;exact absurd (show a.2∈l.map (·.2) from mem_map.mpr ⟨p,hp2,e⟩) nd.1
     .exact ih nd.2 hp2 hq2 e
  exact congrArg Prod.fst (key hnd a1 a2 rfl)
 .have hy'':L.scope.names.lookup y=some .cell\/L.scope.names.lookup y=some .free:=hy';rcases hy'' with q | q
  .exact absurd rfl (S.nocell _ (PySem.mem_of_lookup q))
  .have m:=S.all y q;rw[<- hy] at m;obtain⟨p,hp,rfl⟩:=mem_map.mp m;obtain⟨i,hi,e⟩:=List.getElem_of_mem hp;exact⟨p.2,(zGK hy nodupY (i:=i) (p:=p) (by rw[<- e];exact getElem?_eq_getElem hi)).1⟩
 .have q:=e0.tabs y hy' c' P' e;show hide H _ P'=_;rw[zAT λz=>?_]
  .exact q
  .obtain ⟨o,_,q2,_⟩:=hS P' z;rw[q] at q2;cases q2
 .cases i with
  | zero =>
   have e1:x=y:=by
    have h1':(x::ys)[0]?=some y:=h1;simpa using h1'
   have e2:v=v':=by simpa using h2
   subst e1 e2;exact⟨u,r,.inl ⟨S.par,by simp⟩⟩
  | succ i =>
   have e1:ys[i]?=some y:=by
    have h1':(x::ys)[i+1]?=some y:=h1;simpa using h1'
   have e2:vs[i]?=some v':=by
    have:(vs.map some)[i]?=some (some v'):=by simpa using h2
    rw[List.getElem?_map] at this;obtain⟨a,ea,eb⟩:=yq.mp this;cases eb;exact ea
   obtain⟨p,o,uu,g1,g2,g3,g4⟩:=hc.get e2;obtain⟨k1,k2⟩:=zGK hy nodupY g1;rw[e1] at k2;have ey:y=p.1:=xj k2;subst ey;obtain⟨g5,_⟩:=e0.hok _ _ g2;exact⟨uu,g4,.inr ⟨.inr (S.fr _ (mem_of_getElem? e1)),p.2,k1,o,hk _ _ g5,g3⟩⟩
 .show (some v::vs.map some).length=(x::ys).length;rw[xY,xY,qy,lv,<- hy,qy]
theorem zMq {P:Program}{w:World}{K:W.Frag}{mg:Str->Option Value}{base:Heap}{A:Around}{outer:List Env}{s:Shared}{H:Hp}{Q:VK}{E:XK}{k:Nat}{f:Addr}{L:LamI}{x:Str}{ys:List Str}{v:V}{u:Value}{vs:List V}
  (hr:Room (k+1) A) (e0:Env0 P w K mg base A outer s H) (la:zDu H L f vs) (ey:frN L=ys) (S:zHX x ys L) (rv:RelV v u)
  (body:∀ (c:Addr) (cl:List (Str×Addr)),cl.map (·.1)=ys->zBa H cl vs->(∀ b∈cl.map (·.2),∃ o v,H b=some (.frz o anyU)/\o.data=.cell v)->∃ t:TE,PE (zTX P w K mg base (x::ys) L f c cl A outer s (hide H (cl.map (·.2)))) L.body t /\
   t (some v::vs.map some) (hide H (cl.map (·.2))) λv' H2=>∀ H',(∀ b∈cl.map (·.2),H' b=H b)->(∀ b,b∉cl.map (·.2)->H' b=H2 b)->Same H2 H'->(∀ b∈cl.map (·.2),H2 b=none)->Q v' H') :
  codeAny (model P w) A (.call (.ref f) ⟨[u],[]⟩) (CR CX0 outer P w H s Q E) s:=by
 obtain⟨cl,pm,c,ctv,oc,u1,h1,h2,h3,h4,h5,h6⟩:=la;rw[ey] at h4;obtain⟨g1,_⟩:=e0.hok _ _ h1;obtain⟨g2,_⟩:=e0.hok _ _ h2;obtain⟨cvs,ct,d1,d2⟩:=h3;have hS:∀ b∈cl.map (·.2),∃ o v,H b=some (.frz o anyU)/\o.data=.cell v:=λb z=>by
  obtain⟨p,hp,rfl⟩:=mem_map.mp z;obtain⟨o,u,q1,q2⟩:=h6.mem p hp;exact⟨o,_,q1,q2⟩
 refine W.kla_callFunE hr.depth g1 rfl S.co S.gen rfl ⟨c,oc,cvs,ct,rfl,g2,d1,d2⟩ ?_;rw[S.bind];have lim:s.heap.NoLimit:=e0.mod.nolimit.keeps λb o e=>(e0.bs b o e).1
 refine q9 (wpAny_newFunctionEnv S.nocell (λy hy=>by rw[mem_singleton.mp hy];exact S.par) (λO7 hns hsb=>⟨lim.fresh _ hsb,?_⟩) S.kind);show codeAny _ _ (.expr L.body (W.envX L.qual L.scope s.heap.objs.size f (.ref c) cl)) _ _;obtain⟨t,ht,hq⟩:=body c cl h4 h6 hS;have I:=zPy (f:=f) (c:=c) S hr.hd (by have:=hr.dp;show A.depth+1+100 < _;omega) e0 rv h4 h5 h6 hns hsb (s.toks+1);refine W.kla_codeExpr (wpAny_mono (ht [] _ _ _ _ I hq) (λuu s' hs=>?_) λe s' hs=>hs.elim);obtain⟨v',H2,J,rv',q⟩:=hs;obtain⟨H',p1,p2,p3,p4,un,hok'⟩:=zO1 (P:=P) (w:=w) (fs:=frs outer) (S:=cl.map (·.2)) (λb z=>let ⟨o,_,q,_⟩:=hS b z;⟨o,q⟩) (λb z z2=>by
  obtain⟨o,_,q,_⟩:=hS b z;rw[e0.frf b z2] at q;cases q) e0.hok J.base J.hok
 exact⟨v',H',J.os,J.bare,un,hok',rv',q H' p1 p2 p3 p4⟩
noncomputable def clos:List (Str×NameKind)->List (Str×Addr)->List (Str×Addr)->Option (List (Str×Addr))
 | [],_,acc=>some acc
 | (x,k)::r,cs,acc=>if k==.free then (match cs.lookup x with
  | some c=>clos r cs ((x,c)::acc)
  | none=>none) else clos r cs acc
theorem zHR :∀ {l:List (Str×NameKind)} {acc:List (Str×Addr)},clos l env.cells acc=some cl ->
  (forIn l acc (λ(x:Str×NameKind) (r:List (Str×Addr))=>match x with
   | (name,kind)=>if (kind==.free)=true then (do let c<-cellOf env name;pure (ForInStep.yield ((name,c)::r))) else pure (ForInStep.yield r)):Sem (List (Str×Addr)))=pure cl
 | [],acc,h=>by
  cases h;simp
 | (x,k)::l,acc,h=>by
  unfold clos at h;rw[forIn_cons];by_cases e:(k==NameKind.free)=true
  .rw [if_pos e] at h;split at h
   .rename_i c ec;have:=zHR (l:=l) h;have ce:cellOf env x=pure c:=by unfold cellOf;rw[ec]
    simp only[e,if_true,ce,pure_bind];exact this
   .cases h
  .rw [if_neg e] at h;have:=zHR (l:=l) h;simp only[e,Bool.false_eq_true,if_false,pure_bind];exact this
theorem zE6 (h:clos sc.names env.cells []=some cl):closureFor sc env=pure cl:=by
 unfold closureFor;have:=zHR h;simp only[bind_pure];exact this
theorem zFx {a b:Nat}{c:Value}(l:List Value)(h:TriplesOk l):TriplesOk (l++[rawInt a,rawInt b,c]):=by
 fun_induction TriplesOk l with
 | case1=>simp[TriplesOk,rawInt]
 | case2 _ _ _ _ _ rest ih=>simpa [TriplesOk] using ih h
 | case3=>cases h
theorem zI3 {pos:Pos}{a b:Nat}{c cv:Value}(l:List Value)(h:TriplesOk l)(e:codeAmong pos (l++[rawInt a,rawInt b,c])=some cv):codeAmong pos l=some cv\/cv=c:=by
 fun_induction TriplesOk l with
 | case1 =>
  right
  simp only[nil_append,rawInt,codeAmong] at e;split at e
  .exact (xj e).symm
  .cases e
 | case2 line t col u x rest ih =>
  simp only[cons_append,codeAmong] at e ⊢;split at e
  .left;rename_i z;rw[if_pos z];exact e
  .rename_i z;rw[if_neg z];exact ih h e
 | case3=>cases h
section
variable {X:Cx}{pins:List (Addr×Obj)}{B:St}{H:Hp}{s:Shared}
theorem zMp (I:Inv X pins B H s)
  (hd:defaultsOf params X.env=([],[])) (hcl:clos scope.names X.env.cells []=some cl) (hcode:X.env.code=.ref c) (C:W.CodeHd X.base c P) (hP:H P=some (.tbl (X.env.qual ++ "<lambda>")))
  (h:∀ f c' ctv pm oc u1 H1 s',Same H H1->H f=none->H1 f=some (.frz (W.kla_obj "<lambda>" (X.env.qual ++ "<lambda>") params body scope cl pm c' ctv) anyU)->H1 c'=some (.frz oc u1)->zL3 oc (X.env.qual ++ "<lambda>")->Inv X pins B H1 s'->Q (.ref f) s') :
  wpAny (model X.prog X.w) X.A (eval (.Lambda params body scope pos) X.env) Q E s:=by
 refine W.kla_eval hd ?_;have hg:s.heap.Ns mainGlobals X.mg:=I.ok.mod.glob.keeps I.bk;obtain⟨ps,e1,t1,cs⟩:=I.hok P _ hP;have C':=C.keeps I.bk;have hgP:mainGlobals≠P:=λz=>by
  obtain⟨o,es,ep,e,d,_⟩:=hg;rw[z,e1] at e;cases e;cases d
 obtain⟨bm,ob,b1,b2,b3,b4,b5,b6⟩:=I.ok.mod.bm;have b3':=I.bk _ _ b3;have hbm:bm≠mainGlobals:=λz=>by
  obtain⟨o,es,ep,e,d,_⟩:=hg;rw[<- z,b3'] at e;cases e;rw[b6] at d;cases d
 have hbP:bm≠P:=λz=>by
  rw[z,e1] at b3';cases b3';cases b4
 have hb:s.heap.BuiltinsAt X.mg P:=⟨bm,ob,b1,b2,hbm,hbP,b3',b4,b5,b6⟩;cases e:codeAmong pos ps.toList with
 | none =>
  refine W.kla_makeFunction (zE6 hcl) I.ok.glob hg hcode C' e1 t1 e hgP hb λc' ctv h' tk hx hge hlt hrec htb=>?_
  obtain⟨c2,oc,vs,t,q1,q2,q3,q4⟩:=hrec;cases q1;have szh:s.heap.objs.size<=h'.objs.size:=le_trans hge (Nat.le_of_lt hlt);have nc:H c'=none:=I.hok.fresh hge;have nf:H h'.objs.size=none:=I.hok.fresh szh;have ncf:c'≠h'.objs.size:=ne_of_lt hlt;obtain⟨fo,efo⟩:∃ fo:Obj,fo=W.kla_obj "<lambda>" (X.env.qual ++ "<lambda>") params body scope cl ((X.mg "__name__").getD .none) c' ctv:=⟨_,rfl⟩;obtain⟨H1,eH⟩:∃ H1:Hp,H1=upd (upd H c' (.frz oc anyU)) h'.objs.size (.frz fo anyU):=⟨_,rfl⟩;have sm:Same H H1:=λb o q=>by
   rw[eH,zAP (zAw q nf),zAP (zAw q nc)];exact q
  have at1:H1 h'.objs.size=some (.frz fo anyU):=by rw[eH];exact zAh
  have at2:H1 c'=some (.frz oc anyU):=by rw[eH,zAP ncf];exact zAh
  have oth:∀ {b:Addr},b≠c'->b≠h'.objs.size->H1 b=H b:=λ{b} z1 z2=>by rw[eH,zAP z2,zAP z1]
  have kp:∀ b o,b≠P->s.heap.get? b=some o->(h'.push fo).get? b=some o:=λb o z q=>get?_push_of_some _ (hx b o z q)
  have lt:∀ {b:Addr} {o:Obj},s.heap.get? b=some o->b≠c'/\b≠h'.objs.size:=λ{b o} q=>⟨ne_of_lt (xQ (lt_size q) hge),ne_of_lt (xQ (lt_size q) szh)⟩
  have nP:∀ {b:Addr},H b=none->b≠P:=λ{b} q z=>by rw[z,hP] at q;cases q
  have un:Un X.fs [] H H1 s.heap (h'.push fo):=⟨λb o q n _ _=>kp b o (nP n) q,λb o q n _ _=>⟨o.slots,kp b o (nP n) q⟩,λb o q n _=>by
    obtain⟨z1,z2⟩:=lt q;rw[oth z1 z2];exact n,λb o q _=>by
    by_cases z:b=P
    .subst z;exact⟨_,get?_push_of_some _ htb⟩
    .exact ⟨o,kp b o z q⟩,λb xs q=>sm _ _ q,λb o u q=>sm _ _ q,λb q' q=>sm _ _ q⟩
  have hok:HOk X.prog X.w H1 (h'.push fo):=λb u q=>by
   by_cases z1:b=h'.objs.size
   .subst z1;rw[at1] at q;cases q;exact zEQ (get?_push_size _ (by rw[efo];rfl))
   .by_cases z2:b=c'
    .subst z2;rw[at2] at q;cases q;exact zEQ (get?_push_of_some _ q2)
    .rw [oth z2 z1] at q;by_cases z3:b=P
     .subst z3;rw[hP] at q;cases q;refine⟨_,get?_push_of_some _ htb,?_,λpos' cv z=>?_⟩
      .rw [Array.toList_append];exact zFx _ t1
      .rw [Array.toList_append] at z;rcases zI3 _ t1 z with z | z
       .obtain ⟨c3,oc3,u3,g1,g2,g3⟩:=cs pos' cv z;exact⟨c3,oc3,u3,g1,sm _ _ g2,g3⟩
       .exact ⟨c',oc,anyU,z,at2,vs,t,q3,q4⟩
     .refine (I.hok b u q).stay (λd v hd w'=>kp d v ?_ w') (λd w'=>sm _ _ w') (λd xs w'=>sm _ _ w') λd o' u' w' _=>sm _ _ w'
      rintro rfl;rcases hd with hd | hd
      .exact z3 hd.symm
      .rw [hP] at hd;cases hd
  have I1:=I.un (t':=tk) un hok;rw[efo] at I1 at1;exact h _ c' ctv _ oc anyU H1 _ sm nf at1 at2 ⟨vs,t,q3,q4⟩ I1
 | some cv =>
  obtain⟨c',oc,u1,rfl,hc',co⟩:=cs pos cv e;refine W.kla_makeFunctionHit (zE6 hcl) I.ok.glob hg hcode C' e1 t1 e hb λctv h' tk hk hsz=>?_
  have nf:H h'.objs.size=none:=I.hok.fresh hsz;have I1:=I.laid (a:=h'.objs.size) (o:=.frz (W.kla_obj "<lambda>" (X.env.qual ++ "<lambda>") params body scope cl ((X.mg "__name__").getD .none) c' ctv) anyU) (t':=tk) (λb o q=>get?_push_of_some _ (hk b o q)) hsz (zEQ (get?_push_size _ rfl));exact h _ c' ctv _ oc u1 _ _ (zAp nf _) nf zAh (by rw[zAP (zAw hc' nf)];exact hc') co I1
end
end DL
end
section
namespace DL
open PySem Spec PyProof.Rows L2
mutual
noncomputable def noF:D->Bool
 | .lam _ _ _=>false
 | .tup ds=>noFs ds
 | .lst ds=>noFs ds
 | .obj _ _ ds=>noFs ds
 | _=>true
noncomputable def noFs:List D->Bool
 | []=>true
 | d::ds=>noF d&&noFs ds
end
abbrev zRA (H:Hp) (S:List Addr):Prop:=∀ b∈S,∃ o v,H b=some (.frz o anyU)/\o.data=.cell v
section
variable {K:W.Frag}{H:Hp}{S:List Addr}
theorem zCL (hS:zRA H S)(e:H b=some u)(n:∀ o v,u=.frz o anyU->o.data≠.cell v):hide H S b=some u:=by
 rw[zAT λz=>?_]
 .exact e
 .obtain ⟨o,v,q1,q2⟩:=hS b z;rw[e] at q1;exact n o v (xj q1) q2
mutual
theorem Den.hideC (hS:zRA H S):∀ {d:D} {v:V},noF d=true->Den K H d v->Den K (hide H S) d v
 | .non,_,_,h=>by rw[Den] at h ⊢;exact h
 | .bl _,_,_,h=>by rw[Den] at h ⊢;exact h
 | .int _,_,_,h=>by rw[Den] at h ⊢;exact h
 | .str _,_,_,h=>by rw[Den] at h ⊢;exact h
 | .tup ds,_,n,h=>by
  rw[noF] at n;rw[Den] at h ⊢;obtain⟨a,vs,h1,h2,h3⟩:=h;refine⟨a,vs,h1,?_,DenL.hideC hS n h3⟩;rcases h2 with (q | ⟨o,q⟩) | q
  .exact .inl (.inl (zCL hS q λo v z=>nomatch z))
  .exact .inl (.inr ⟨o,zCL hS q λo v z=>nomatch z⟩)
  .exact .inr q
 | .lst ds,_,n,h=>by
  rw[noF] at n;rw[Den] at h ⊢;obtain⟨a,vs,h1,h2,h3⟩:=h;refine⟨a,vs,h1,?_,DenL.hideC hS n h3⟩;rcases h2 with (q | ⟨o,q⟩) | q
  .exact .inl (.inl (zCL hS q λo v z=>nomatch z))
  .exact .inl (.inr ⟨o,zCL hS q λo v z=>nomatch z⟩)
  .exact .inr q
 | .exc c,_,_,h=>by
  rw[Den] at h ⊢;obtain⟨a,o,u,C,h1,h2,h3,⟨vs,h4⟩,h5⟩:=h;exact⟨a,o,u,C,h1,zCL hS h2 (λo' v z d=>by cases z;rw[h4] at d;cases d),h3,⟨vs,h4⟩,h5⟩
 | .dct ks,_,_,h=>by
  rw[Den] at h ⊢;obtain⟨a,kvs,h1,h2,h3⟩:=h;exact⟨a,kvs,h1,zCL hS h2 (λo v z=>nomatch z),h3⟩
 | .lam _ _ _,_,n,_=>by rw[noF] at n;cases n
 | .obj c ns ds,_,n,h=>by
  rw[noF] at n;rw[Den] at h ⊢;obtain⟨a,vs,h1,⟨C,dx,gs,h2,h3⟩,h4⟩:=h;exact⟨a,vs,h1,⟨C,dx,gs,zCL hS h2 (λo v z=>nomatch z),h3⟩,DenL.hideC hS n h4⟩
 | .fn _ x,_,_,h=>by rw[Den] at h ⊢;exact h
theorem DenL.hideC (hS:zRA H S):∀ {ds:List D} {vs:List V},noFs ds=true->DenL K H ds vs->DenL K (hide H S) ds vs
 | [],_,_,h=>by rw[DenL] at h ⊢;exact h
 | d::ds,_,n,h=>by
  rw[noFs,x9] at n;rw[DenL] at h ⊢;obtain⟨v,ws,h1,h2,h3⟩:=h;exact⟨v,ws,h1,Den.hideC hS n.1 h2,DenL.hideC hS n.2 h3⟩
end
end
def zFA (P:Program)(w:World)(K:W.Frag)(mg:Str->Option Value)(base:Heap)(k:Nat)(L:LamI)(F:List D->Option R):Prop :=
 ∀ (A:Around) (outer:List Env) (s:Shared) (H:Hp) (f:Addr) (vs:List V) (ds:List D) (v:V) (u:Value) (d:D) (r:R) (Q:VK) (E:XK),Room k A->Env0 P w K mg base A outer s H->zDu H L f vs->DenL K H ds vs->RelV v u->Den K H d v->F (d::ds)=some r->r.2≠.dt ->
  (∀ v' H',Same H H'->RV K H H' [] r v'->Q v' H')->codeAny (model P w) A (.call (.ref f) ⟨[u],[]⟩) (CR CX0 outer P w H s Q E) s
theorem zFA.mono {K:W.Frag}(h:zFA P w K mg base j L F)(e:j<=k):zFA P w K mg base k L F :=
 λA outer s H f vs ds v u d r Q E hr=>h A outer s H f vs ds v u d r Q E (hr.mono e)
theorem zPq {K:W.Frag}(S:zHX x ys L)(ey:frN L=ys)
  (hb:∀ Y:Cx,Y.prog=P->Y.w=w->Y.K=K->Y.mg=mg->Y.base=base->Room k Y.A->Y.calm=true->Y.N=x::ys->Y.env.scope=L.scope->Y.xe=(λ_ _=>False)->GE Y L.body G) :
  zFA P w K mg base (k+1) L (λds=>if ds.length=ys.length+1/\noFs ds=true then G (ds.map λd=>some (d,false)) else none):=by
 intro A outer s H f vs ds v u d r Q E hr e0 la dl rv dd hF hk c;replace hF:(if (d::ds).length=ys.length+1/\noFs (d::ds)=true then G ((d::ds).map λd=>some (d,false)) else none)=some r:=hF;have q:(d::ds).length=ys.length+1/\noFs (d::ds)=true:=Classical.byContradiction λz=>by rw[if_neg z] at hF;cases hF
 rw[if_pos q] at hF;have lds:ds.length=ys.length:=by have:=q.1;rw[xY] at this;omega
 have nf:=q.2;rw[noFs,x9] at nf;refine zMq hr e0 la ey S rv λcc cl hcl hc hS=>⟨_,hb _ rfl rfl rfl rfl rfl (hr.deeper _) rfl rfl rfl rfl,?_⟩
 have e1:=Den.hideC hS nf.1 dd;have e2:=DenL.hideC hS nf.2 dl;refine⟨[],(d::ds).map λd=>some (d,false),r,⟨?_,λa z=>absurd z (by simp),λi d' o z=>?_,λi j d' e' a z1 _ _ _=>?_⟩,hF,λv' H2 s2 r2 H' p1 p2 p3 p4=>?_⟩
 .rw [qy,xY,xY,qy,dl.length]
 .rw [List.getElem?_map] at z;obtain⟨d2,z1,z2⟩:=yq.mp z;cases z2;cases i with
  | zero =>
   have:d=d':=by simpa using z1
   subst this;exact⟨v,rfl,.of_den (by rw[zBe];exact e1)⟩
  | succ i =>
   have z1':ds[i]?=some d':=by simpa using z1
   obtain⟨v2,g1,g2⟩:=e2.get z1';exact⟨v2,by show (vs.map some)[i]?=_;rw[List.getElem?_map,g1];rfl,.of_den (by rw[zBe];exact g2)⟩
 .rw [List.getElem?_map] at z1;obtain⟨d2,_,z2⟩:=yq.mp z1;cases z2
 .have sm:Same H H':=λb o e=>by
   by_cases z:b∈cl.map (·.2)
   .rw [p1 b z];exact e
   .rw [p2 b z];exact s2 b o (by rw[zAT z];exact e)
  refine c v' H' sm ?_;obtain⟨d',kd⟩:=r;cases kd with
  | cl =>
   have z:Den K (hide H2 []) d' v':=r2;show Den K (hide H' []) d' v';rw[zBe] at z ⊢;exact z.mono p3
  | fr =>
   obtain⟨a,ws,es,e1,e2,e3,e4,e5,e6⟩:=r2;have na:a∉cl.map (·.2):=λz=>by rw[p4 a z] at e5;cases e5
   refine⟨a,ws,es,e1,e2,e3,by rw[zAT na] at e4;exact e4,p3 _ _ e5,e6.mono (zAU p3)⟩
  | dt=>exact absurd rfl hk
open Classical in
noncomputable def lamF (lm:List (LamI×(List D->Option R)))(j:Nat)(L:LamI)(ds:List D):Option R:=match lm[j]? with
 | some (L',F)=>if L'=L then F ds else none
 | none=>none
noncomputable def fnvF (fns:List (Str×(List D->Option R)))(n:Nat)(x:Str)(ds:List D):Option R:=match fns[n]? with
 | some (y,F)=>if y=x then F ds else none
 | none=>none
def zEb (lm:List (LamI×(List D->Option R)))(fns:List (Str×(List D->Option R)))(i:Nat)(f:Dst->Option R):Dst->Option R:=λG=>match G[i]? with
 | some (some (.fn n y,false))=>(f G).bind λx=>if x.2=.dt then none else (fnvF fns n y [x.1]).bind λr=>if r.2=.dt then none else some r
 | some (some (.lam j L ds,false))=>(f G).bind λx=>if x.2=.dt then none else (lamF lm j L (x.1::ds)).bind λr=>if r.2=.dt then none else some r
 | _=>none
variable {X:Cx}
theorem zM7 (LR:∀ (j:Nat) L F,lm[j]?=some (L,F)->zFA X.prog X.w X.K X.mg X.base k L F)(FR:∀ x F,(x,F)∈fns->∃ f fd ps,FnOk X.prog X.w X.K X.mg X.base CX0 k f fd ps (spD X.K F)/\X.mg x=some (.ref f)/\W.keepIn X.K (.ref f)=true/\zBU X.K fd ps [])(hr:Room k X.A)(hN:X.N[i]?=some y)(hv:Vis X.env.scope y)(hd:(y==("__debug__":Str))=false)(hcd:(y==("__classdict__":Str))=false)
  (ha:GE X a f) (he:starEach (a::[]) X.env=(false,eval a X.env)::starEach [] X.env) (px:PassesOwn (model X.prog X.w) X.A X.env X.xe:=by assumption):GE X (.Call (.Name y p) [a] [] pos) (zEb lm fns i f):=by
 intro pins s B H Q I ⟨S,G,z,ds,e,c⟩;unfold zEb at e;split at e
 .rename_i n x0 q;obtain⟨x,ex,e⟩:=bind_some e;by_cases hx:x.2=.dt
  .rw [if_pos hx] at e;cases e
  rw[if_neg hx] at e;obtain⟨r,er,e⟩:=bind_some e;by_cases hk:r.2=.dt
  .rw [if_pos hk] at e;cases e
  rw[if_neg hk] at e;cases e;obtain⟨v0,q1,q2⟩:=ds.get i _ false q;have q3:=q2.den rfl;rw[Den] at q3;obtain⟨f0,rfl,cn⟩:=q3;unfold fnvF at er;split at er
  .rename_i y' F el;have eL:y'=x0:=Classical.byContradiction λz=>by rw[if_neg z] at er;cases er
   rw[if_pos eL] at er;subst eL;obtain⟨f1,fd,ps,FO,hm,hkp,hb⟩:=FR _ F (mem_of_getElem? el);have hm2:X.mg y'=some (.ref f0):=W.mg_of I.ok.mod.kin I.ok.mod.glob cn;rw[hm] at hm2;cases hm2;refine wpAny_Call_Name_kw (thn (zDg hN hv hd hcd pins s B H (λx H1=>x=.ref f0/\H1=H) I ⟨_,q1,rfl,rfl⟩) λu s1 zz76=>?_);obtain⟨x1,H1,I1,rx,e1,e2⟩:=zz76;subst e1 e2;obtain rfl:u=Value.ref f0:=rx;refine W.callWith_K (h₀:=X.base) I1.ok.mod.kin hkp (thn (zAY ha zBC he pos pins s1 B _ (λvs H2=>spD X.K F (vs++[]) H2 Q E0) I1 ?_) λus s2 zy132=>by obtain⟨vs,H2,I2,rr,qq⟩:=zy132;exact⟨I2.kIn,zHg FO hr hb .nil zJs I2 rr qq⟩) he rfl;refine⟨S,G,x,ds,ex,λvx H2 s2 r2=>?_⟩;exact⟨S,[x.1],_,(ds.mono s2).sok,.cons (RV.den (d:=x.1) (k:=x.2) r2 hx) .nil,er,hk,λv H' s3 r3=>c v H' (s2.trans s3) (r3.from s2)⟩
  .cases er
 .rename_i j L dl q;obtain⟨x,ex,e⟩:=bind_some e;by_cases hx:x.2=.dt
  .rw [if_pos hx] at e;cases e
  rw[if_neg hx] at e;obtain⟨r,er,e⟩:=bind_some e;by_cases hk:r.2=.dt
  .rw [if_pos hk] at e;cases e
  rw[if_neg hk] at e;cases e;obtain⟨v0,q1,q2⟩:=ds.get i _ false q;have q3:=q2.den rfl;rw[Den] at q3;obtain⟨f0,vs,rfl,la,dla⟩:=q3;unfold lamF at er;split at er
  .rename_i L' F el;have eL:L'=L:=Classical.byContradiction λz=>by rw[if_neg z] at er;cases er
   rw[if_pos eL] at er;subst eL;have fat:∀ {H1:Hp} {s1:Shared},zDu H1 L' f0 vs->HOk X.prog X.w H1 s1.heap->W.FnAt f0 s1.heap:=λ{H1 s1} la hok=>by
    obtain⟨cl,pm,c',ctv,oc,u1,g1,_⟩:=la;obtain⟨g2,_⟩:=hok _ _ g1;exact⟨_,_,_,_,g2⟩
   refine wpAny_Call_Name_kw (thn (zDg hN hv hd hcd pins s B H (λx H1=>x=.ref f0/\H1=H) I ⟨_,q1,rfl,rfl⟩) λu s1 zz77=>?_);obtain⟨x1,H1,I1,rx,e1,e2⟩:=zz77;subst e1 e2;obtain rfl:u=Value.ref f0:=rx;have arg:gT X.K f B H1 λvx H2=>Same H1 H2/\RV X.K H1 H2 S x vx:=⟨S,G,x,ds,ex,λvx H2 s2 r2=>⟨s2,r2⟩⟩
   refine W.callWith_F (fat (la.mono zAq) I1.hok) (thn (zAY ha zBC he pos pins s1 B _ (λxs H2=>∃ vx,xs=[vx]/\Same H1 H2/\RV X.K H1 H2 S x vx) I1 (by
    obtain⟨S',G',r',g1,g2,g3⟩:=arg;exact⟨S',G',r',g1,g2,λvx H2 s2 r2=>⟨vx,rfl,g3 vx H2 s2 r2⟩⟩)) λus s2 ⟨xs,H2,I2,rvs,vx,exs,sm,rx2⟩=>?_) he
   subst exs;obtain⟨uu,rfl,rvu⟩:=zGm rvs;have la2:zDu (hide H2 S) L' f0 vs:=la.mono (zAU sm);refine⟨fat (la2.mono zAq) I2.hok,?_⟩;refine wpAny_call (codeAny_mono (zER (r:=z) (Q:=Q) (E:=E0) I2.env0 (ds.mono sm).sok hk (λe1=>LR j L' F el _ _ _ _ f0 vs dl vx uu x.1 z _ _ hr e1 la2 (dla.mono (zAU sm)) rvu (RV.den (d:=x.1) (k:=x.2) rx2 hx) er hk λv' H' s3 r3=>⟨r3,s3⟩) λv H' s3 r3=>c v H' (sm.trans s3) (r3.from sm)) λrr s' hq=>?_);cases rr with
   | error e=>exact hq.elim
   | ok fl =>
    cases fl with
    | ret u=>exact I2.after hq
    | next=>exact False.elim hq
    | brk=>exact False.elim hq
    | cont=>exact False.elim hq
  .cases er
 .cases e
end DL
end
section
namespace DL
open PySem Spec PyProof.Rows L2
variable {X:Cx}
noncomputable def fldD (ob:List (Str×Str×Option Bool))(f:Str):D->Option R
 | .obj c ns l=>if (c,f,none)∈ob then ((ns.zip l).lookup f).map λd=>(d,.cl) else none
 | _=>none
theorem zK0 {K:W.Frag}{gs:List (Str×V)}:∀ {ns:List Str} {vs:List V} {l:List D},(ns.map λn=>gs.lookup n)=vs.map some->DenL K H l vs->(ns.zip l).lookup f=some d->∃ v,gs.lookup f=some v/\Den K H d v
 | [],_,_,_,_,e=>by simp at e
 | n::ns,vs,[],_,_,e=>by simp at e
 | n::ns,vs,x::l,h,t,e=>by
  rw[DenL] at t;obtain⟨v,us,rfl,t1,t2⟩:=t;simp only[map_cons,List.cons.injEq] at h;rw[List.zip_cons_cons,lookup_cons] at e;by_cases q:(f==n)=true
  .rw [q] at e;cases e;exact⟨v,by rw[eq_of_beq q];exact h.1,t1⟩
  .rw [Bool.not_eq_true] at q;rw[q] at e;exact zK0 h.2 t2 e
theorem Rdv.obj {K:W.Frag}(h:Rdv K H S (.obj c ns l) v):Den K (hide H S) (.obj c ns l) v:=by
 rcases h with h | ⟨_,_,_,_,h2,_⟩
 .exact h
 .cases h2
theorem zS3 (ha:GE X e g)(hb:attributeBase e fl X.env (eval e X.env)=eval e X.env)(ho:∀ c,(c,fl,none)∈ob->∀ C,zCS X.K c C->Cls X.K C/\zCf X.K C fl):GE X (.Attribute e fl pos) (one g (fldD ob fl)):=by
 refine(zOB ha hb).imp λB H Q zz78=>?_
 obtain⟨S,G,z,ds,e,c⟩:=zz78;obtain⟨x,ex,e⟩:=bind_some e;unfold fldD at e;split at e
 .rename_i cc ns l hx;by_cases m:(cc,fl,none)∈ob
  .rw [if_pos m] at e;obtain⟨d,e1,e2⟩:=yq.mp e;cases e2;refine⟨S,G,x,ds,ex,λvx H1 s1 r1=>?_⟩;have r2:=r1.rd;rw[hx] at r2;have r3:=r2.obj;rw[Den] at r3;obtain⟨a,vs,rfl,⟨C,dx,gs,h1,h2,h3,h4⟩,h5⟩:=r3;obtain⟨v,q1,q2⟩:=zK0 h4 h5 e1;obtain⟨o1,o2⟩:=ho cc m C h3;exact⟨a,C,dx,gs,v,rfl,zAq _ _ h1,o1,o2,q1,c v H1 s1 q2⟩
  .rw [if_neg m] at e;cases e
 .cases e
structure OCls (K:W.Frag)(C:Addr):Prop where
 cl:Cls K C
 ha:W.findIn K (.ref C) "__class__"=some (some (.builtin "object.__class__"))
 hm:W.mroIn K C (.type "object")=some true
 hn:W.specialIn K (.builtin "object.__class__") "__get__"=some (some (.builtin "getset_descriptor.__get__"))
 htk:W.takesIn K (.builtin "object.__class__")=some true
noncomputable def isoF (sub:Str->Option Bool):D->Option R
 | .obj c _ _=>(sub c).bind λb=>some (.bl b,.cl)
 | _=>none
theorem zNd {sub:Str->Option Bool}(ru:∀ u',RelV vy u'->u'=u)(hs:∀ c b,sub c=some b->∀ C,zCS X.K c C->OCls X.K C/\W.kitOne X.K (.ref C) u=some b) :
  zDv X (.builtin "isinstance") (λxs H Q=>∃ v c ns l b,xs=[v,vy]/\Den X.K H (.obj c ns l) v/\sub c=some b/\Q (.bl b) H):=by
 intro pins s B H xs us Q I r h;obtain⟨v,c,ns,l,b,rfl,hd,e,q⟩:=h;obtain⟨u',w',rfl,r1,r2⟩:=zMA r;obtain rfl:=ru w' r2;rw[Den] at hd;obtain⟨a,vs,rfl,⟨C,dx,gs,h1,h2,h3,h4⟩,h5⟩:=hd;obtain⟨hC,hk⟩:=hs c b e C h3;exact zKb I r1 (.ins h1 hC.cl hC.ha hC.hn hC.htk hC.hm) hk λtk=>⟨.bl b,H,I.tok tk,rfl,q⟩
theorem zS1 (hg:Gl X "isinstance")(hm:X.mg "isinstance"=none)(hv:PE X (.Name y p2) (tC vy))(ru:∀ u',RelV vy u'->u'=u)
  (hs:∀ c b,sub c=some b->∀ C,zCS X.K c C->OCls X.K C/\W.kitOne X.K (.ref C) u=some b) (ha:GE X e f)
  (he:starEach [e,.Name y p2] X.env=(false,eval e X.env)::starEach [.Name y p2] X.env):GE X (.Call (.Name "isinstance" p) [e,.Name y p2] [] pos) (one f (isoF sub)):=by
 refine(zDx (zNd ru hs) hg hm boot_isinstance (zAY ha (zAY hv zBC rfl) he) (by decide) (by decide) he rfl).imp λB H Q zz79=>?_
 obtain⟨S,G,z,ds,e,c⟩:=zz79;obtain⟨x,ex,e⟩:=bind_some e;unfold isoF at e;split at e
 .rename_i cc ns l hx;obtain⟨b,eb,e⟩:=bind_some e;cases e;exact⟨S,G,x,ds,ex,λvx H1 s1 r1=>⟨vx,cc,ns,l,b,rfl,hx▸r1.rd.whole,eb,c _ H1 s1 (.bl _)⟩⟩
 .cases e
def ObOk (K:W.Frag)(mg:Str->Option Value)(p:Str×Str×Option Bool):Prop:=match p.2.2 with
 | none=>∀ C,zCS K p.1 C->Cls K C/\zCf K C p.2.1
 | some b=>∃ Y,mg p.2.1=some (.ref Y)/\∀ C,zCS K p.1 C->OCls K C/\W.kitOne K (.ref C) (.ref Y)=some b
def oiOf (ob:List (Str×Str×Option Bool))(y c:Str):Option Bool:=(ob.find? λp=>decide (p.1=c)&&decide (p.2.1=y)&&p.2.2.isSome).bind (·.2.2)
theorem zOG (h:oiOf ob y c=some b):(c,y,some b)∈ob:=by
 unfold oiOf at h;obtain⟨p,e1,e2⟩:=bind_some h;have m:=List.mem_of_find?_eq_some e1;have q:=List.find?_some e1;rw[x9,x9,qj,qj] at q;obtain⟨⟨q1,q2⟩,_⟩:=q;obtain⟨a,b',o⟩:=p;cases q1;cases q2;cases e2;exact m
end DL
end
section
namespace DL
open PySem Spec PyProof.Rows L2
set_option genSizeOf false in
set_option genInjectivity false in
inductive E where
 | var (i:Nat) | glob (n:Nat) (x:Str) | int (i:Int) | bl (b:Bool) | non | str (x:Str)
 | bin (op:Operator) (a b:E) | neg (a:E) | not (a:E) | cmp (op:CmpOp) (a b:E)
 | andl (es:E) | orl (es:E) | ite (c a b:E) | tup (es:E) | lst (es:E) | ix (a i:E) | sl (a lo hi:E)
 | comp1 (n:Nat) (ms:List Nat) (x:Str) (src c elt:E) 
 | lzip (a b:E)
 | it (e:E) | r1 (a:E) | r2 (a b:E) | r3 (a b c:E)
 | call (n:Nat) (f:Str) (es:E) | len (a:E) | abs (a:E) | list (a:E) | max (a b:E) | isi (t:Ty) (a:E) | chn (op op':CmpOp) (a b c:E) | tupl (a:E) | lrev (a:E) | callv (i:Nat) (a:E) | fld (a:E) (f:Str) | iso (y:Str) (a:E)
 | nil | cons (e es:E)
set_option genSizeOf false in
set_option genInjectivity false in
inductive S where
 | nil | cons (a b:S) | frz (i:Nat) (rest:S)
 | set (i:Nat) (e:E) | setC (i:Nat) (e:E) | app (i:Nat) (e:E) 
 | ife (c:E) (a b:S) | whl (c:E) (b:S) | for1 (i:Nat) (it:E) (b:S) 
 | ret (e:E) | retOwn (i:Nat) | never | ext (i:Nat) (e:E) | aug (op:Operator) (i:Nat) (e:E) | rse (c:Str) (m:E) 
structure Gm where
 fns:List (Str×(List D->Option R))
 cs:List (Str×D)
 xf:List (Str×(List D->Option Str))
 sub:List (Str×Str×Bool)
 rs:List Str
 lm:List (LamI×(List D->Option R))
 ob:List (Str×Str×Option Bool)
open Classical in
def mulD (i j:Int):Option R:=if IntMulOk i j then some (.int (i*j),.cl) else none
open Classical in
def zNE (i j:Int):Option R:=if zI8 i j then some (.int (i.fdiv j),.cl) else none
noncomputable def binD (op:Operator)(x y:D):Option R:=match op with
 | .Add=>(match x,y with
  | .int i,.int j=>some (.int (i+j),.cl)
  | .lst xs,.lst ys=>if xs.length+ys.length<=10000 then some (.lst (xs++ys),.fr) else none
  | .tup (x::xs),.tup (y::ys)=>if (x::xs).length+(y::ys).length<=10000 then some (.tup ((x::xs)++(y::ys)),.cl) else none
  | _,_=>none)
 | .Sub=>(match x,y with
  | .int i,.int j=>some (.int (i - j),.cl)
  | _,_=>none)
 | .Mult=>(match x,y with
  | .int i,.int j=>mulD i j
  | .lst xs,.int j=>if 0<=j/\j<=10000/\xs.length*j.toNat<=10000 then some (.lst (List.replicate j.toNat xs).flatten,.fr) else none
  | _,_=>none)
 | .FloorDiv=>(match x,y with
  | .int i,.int j=>zNE i j
  | _,_=>none)
 | .Mod=>(match x,y with
  | .int i,.int j=>if j=0 then none else some (.int (i.fmod j),.cl)
  | _,_=>none)
 | .Pow=>(match x,y with
  | .int i,.int j=>if 0<=j/\j<=1000000/\i.natAbs < 2^64 then some (.int (i^j.toNat),.cl) else none
  | _,_=>none)
 | _=>none
def cmpD (op:CmpOp)(x y:D):Option R:=match op with
 | .Lt=>(match x,y with
  | .int i,.int j=>some (.bl (decide (i < j)),.cl)
  | _,_=>none)
 | .LtE=>(match x,y with
  | .int i,.int j=>some (.bl (decide (i<=j)),.cl)
  | _,_=>none)
 | .Gt=>(match x,y with
  | .int i,.int j=>some (.bl (decide (j < i)),.cl)
  | _,_=>none)
 | .GtE=>(match x,y with
  | .int i,.int j=>some (.bl (decide (j<=i)),.cl)
  | _,_=>none)
 | .Eq=>eqD id x y
 | .NotEq=>eqD (λb=>!b) x y
 | .Is=>isN id x y
 | .IsNot=>isN (λb=>!b) x y
 | _=>none
def zGP (J:Gm)(n:Nat)(x:Str):Dst->Option R:=λ_=>match J.cs[n]? with
 | some (y,d)=>if y=x then some (d,.cl) else none
 | none=>none
noncomputable def fnD (J:Gm)(n:Nat)(x:Str)(g:Dst->Option (List D)):Dst->Option R:=λG=>match J.fns[n]? with
 | some (y,F)=>if y=x then zHS F g G else none
 | none=>none
def tg1 (i:Nat):D->Dst->Option Dst:=λd G=>some (G.set i (some (d,false)))
mutual
noncomputable def evE (J:Gm):E->Dst->Option R
 | .var i=>varD i
 | .glob n x=>zGP J n x
 | .int i=>λ_=>some (.int i,.cl)
 | .bl b=>λ_=>some (.bl b,.cl)
 | .non=>λ_=>some (.non,.cl)
 | .str x=>λ_=>some (.str x,.cl)
 | .bin op a b=>two (evE J a) (evE J b) (binD op)
 | .neg a=>negD (evE J a)
 | .not a=>notD (evE J a)
 | .cmp op a b=>two (evE J a) (evE J b) (cmpD op)
 | .andl es=>evAnd J es
 | .orl es=>evOr J es
 | .ite c a b=>iteD (evE J c) (evE J a) (evE J b)
 | .tup es=>tupD (evEs J es)
 | .lst es=>lstD (evEs J es)
 | .ix a i=>two (evE J a) (evE J i) ixD
 | .sl a lo hi=>slD (evE J a) (evO J lo) (evO J hi)
 | .call n f es=>fnD J n f (evEs J es)
 | .len a=>one (evE J a) lenD
 | .abs a=>one (evE J a) absD
 | .list a=>one (evE J a) zIl
 | .max a b=>two (evE J a) (evE J b) maxD
 | .isi t a=>one (evE J a) (isiF t)
 | .chn op op' a b c=>chD (cmpD op) (cmpD op') (evE J a) (evE J b) (evE J c)
 | .tupl a=>one (evE J a) zFw
 | .lrev a=>one (evE J a) revD
 | .callv i a=>zEb J.lm J.fns i (evE J a)
 | .fld a f=>one (evE J a) (fldD J.ob f)
 | .iso y a=>one (evE J a) (isoF (oiOf J.ob y))
 | .comp1 n ms _ src c e=>zI0 ms 1 (evI J src) (tg1 n) (evC J c) (evE J e)
 | .lzip a b=>two (evE J a) (evE J b) zipD
 | .it _=>λ_=>none
 | .r1 _=>λ_=>none
 | .r2 _ _=>λ_=>none
 | .r3 _ _ _=>λ_=>none
 | .nil=>λ_=>none
 | .cons _ _=>λ_=>none
noncomputable def evI (J:Gm):E->Dst->Option (List D)
 | .it e=>zGN (evE J e)
 | .r1 a=>zJc (evE J a)
 | .r2 a b=>zGu (evE J a) (evE J b)
 | .r3 a b c=>zJb (evE J a) (evE J b) (evE J c)
 | _=>λ_=>none
noncomputable def evC (J:Gm):E->Dst->Option Bool
 | .nil=>λ_=>some true
 | .cons c _=>asB (evE J c)
 | _=>λ_=>none
noncomputable def evEs (J:Gm):E->Dst->Option (List D)
 | .nil=>λ_=>some []
 | .cons e es=>zNb (evE J e) (evEs J es)
 | _=>λ_=>none
noncomputable def evLs (J:Gm):E->Dst->Option (List D)
 | .nil=>λ_=>some []
 | .cons e es=>zTc (evE J e) (evLs J es)
 | _=>λ_=>none
noncomputable def evAnd (J:Gm):E->Dst->Option R
 | .cons e es=>(match es with
  | .nil=>evE J e
  | es=>andD (evE J e) (evAnd J es))
 | _=>λ_=>none
noncomputable def evOr (J:Gm):E->Dst->Option R
 | .cons e es=>(match es with
  | .nil=>evE J e
  | es=>orD (evE J e) (evOr J es))
 | _=>λ_=>none
noncomputable def evO (J:Gm):E->Dst->Option (Option Int)
 | .cons e _=>zJv (evE J e)
 | _=>λ_=>some none
end
def xvS (J:Gm):S->Dst->Option Str:=λ_ _=>none
def xvSs (J:Gm):S->Dst->Option Str:=λ_ _=>none
mutual
noncomputable def evS (J:Gm):S->Dst->Option Out
 | .set i e=>setD i (evE J e)
 | .setC i e=>setD i (evE J e)
 | .app i e=>appD i (evE J e)
 | .ext i e=>extD i (evE J e)
 | .aug op i e=>augD op i (evE J e)
 | .ife c a b=>ifD (asB (evE J c)) (evSs J a) (evSs J b)
 | .whl c b=>zBb (asB (evE J c)) (evSs J b)
 | .for1 i it b=>λG=>(evI J it G).bind λxs=>forD (tg1 i) (evSs J b) xs G
 | .ret e=>retD (evE J e)
 | .retOwn i=>zD7 i
 | .nil=>λ_=>none
 | .cons _ _=>λ_=>none
 | .frz _ _=>λ_=>none
 | .never=>λ_=>none
 | .rse _ _=>λ_=>none
noncomputable def evSs (J:Gm):S->Dst->Option Out
 | .nil=>λG=>some (.nx G)
 | .cons a b=>seqD (evS J a) (evSs J b)
 | .frz i r=>seqD (frzD i) (evSs J r)
 | _=>λ_=>none
end
noncomputable def visB (sc:Scope)(x:Str):Bool:=match sc.names.lookup x with
 | some .local=>true
 | some .cell=>true
 | some .free=>true
 | _=>false
noncomputable def locB (sc:Scope)(x:Str):Bool:=match sc.names.lookup x with
 | some .local=>true
 | some .cell=>true
 | _=>false
noncomputable def glB (sc:Scope)(x:Str):Bool:=match sc.names.lookup x with
 | some .globalImplicit=>true
 | _=>false
noncomputable def okN (x:Str):Bool:=!(x==("__debug__":Str))&&!(x==("__classdict__":Str))
def zAb:Expr->Bool
 | .Starred _ _=>false
 | _=>true
def zG2:Expr->Bool
 | .Slice _ _ _ _=>false
 | _=>true
def zEp:Expr->Bool
 | .ListComp _ _ _ _=>false
 | .SetComp _ _ _ _=>false
 | .DictComp _ _ _ _ _=>false
 | _=>true
def zKB:Expr->Bool
 | .Set _ _ _=>false
 | _=>true
def bltB (sc:Scope)(bs:List Str)(x:Str):Bool:=glB sc x&&bs.contains x
def opB (op op':Operator):Bool:=decide (op=op')
def cmB (op op':CmpOp):Bool:=decide (op=op')
noncomputable def cscB (sc scope:Scope):Bool:=(scope.kind==.function)&&decide ((scope.names.map (·.1)).Nodup)&&scope.names.all λx=>!(x.2==.free)||sc.names.lookup x.1==some .cell||sc.names.lookup x.1==some .free
def zMe (scope:Scope)(N:List Str)(ms:List Nat):Bool:=(List.range N.length).all λi=>!(ownB scope (N.getD i noN))||ms.contains i
def zR6:Expr->Bool
 | .Name _ _=>true
 | _=>false
def zAX (e:Expr)(k:Str->Pos->Bool):Bool:=match e with
 | .Name x0 x1=>k x0 x1
 | _=>false
theorem zAF (h:zAX e k=true):∃ x0 x1,e=.Name x0 x1/\k x0 x1=true:=by
 cases e with
 | Name x0 x1=>exact⟨x0,x1,rfl,h⟩
 | _=>exact(zzf h)
noncomputable def zB2 (e:Expr)(k:Const->Nat->Pos->Bool):Bool:=match e with
 | .Constant x0 x1 x2=>k x0 x1 x2
 | _=>false
theorem zBd (h:zB2 e k=true):∃ x0 x1 x2,e=.Constant x0 x1 x2/\k x0 x1 x2=true:=by
 cases e with
 | Constant x0 x1 x2=>exact⟨x0,x1,x2,rfl,h⟩
 | _=>exact(zzf h)
def zJ8 (e:Expr)(k:Expr->Operator->Expr->Pos->Bool):Bool:=match e with
 | .BinOp x0 x1 x2 x3=>k x0 x1 x2 x3
 | _=>false
theorem zIe (h:zJ8 e k=true):∃ x0 x1 x2 x3,e=.BinOp x0 x1 x2 x3/\k x0 x1 x2 x3=true:=by
 cases e with
 | BinOp x0 x1 x2 x3=>exact⟨x0,x1,x2,x3,rfl,h⟩
 | _=>exact(zzf h)
def zC9 (e:Expr)(k:UnaryOp->Expr->Pos->Bool):Bool:=match e with
 | .UnaryOp x0 x1 x2=>k x0 x1 x2
 | _=>false
theorem zCW (h:zC9 e k=true):∃ x0 x1 x2,e=.UnaryOp x0 x1 x2/\k x0 x1 x2=true:=by
 cases e with
 | UnaryOp x0 x1 x2=>exact⟨x0,x1,x2,rfl,h⟩
 | _=>exact(zzf h)
def zFW (e:Expr)(k:BoolOp->List Expr->Pos->Bool):Bool:=match e with
 | .BoolOp x0 x1 x2=>k x0 x1 x2
 | _=>false
theorem zED (h:zFW e k=true):∃ x0 x1 x2,e=.BoolOp x0 x1 x2/\k x0 x1 x2=true:=by
 cases e with
 | BoolOp x0 x1 x2=>exact⟨x0,x1,x2,rfl,h⟩
 | _=>exact(zzf h)
def zEC (e:Expr)(k:Expr->List CmpOp->List Expr->Pos->Bool):Bool:=match e with
 | .Compare x0 x1 x2 x3=>k x0 x1 x2 x3
 | _=>false
theorem zDh (h:zEC e k=true):∃ x0 x1 x2 x3,e=.Compare x0 x1 x2 x3/\k x0 x1 x2 x3=true:=by
 cases e with
 | Compare x0 x1 x2 x3=>exact⟨x0,x1,x2,x3,rfl,h⟩
 | _=>exact(zzf h)
noncomputable def zJ4 (e:Expr)(k:Expr->Expr->Expr->Pos->Bool):Bool:=match e with
 | .IfExp x0 x1 x2 x3=>k x0 x1 x2 x3
 | _=>false
theorem zIc (h:zJ4 e k=true):∃ x0 x1 x2 x3,e=.IfExp x0 x1 x2 x3/\k x0 x1 x2 x3=true:=by
 cases e with
 | IfExp x0 x1 x2 x3=>exact⟨x0,x1,x2,x3,rfl,h⟩
 | _=>exact(zzf h)
def zJy (e:Expr)(k:List Expr->Nat->Pos->Bool):Bool:=match e with
 | .Tuple x0 x1 x2=>k x0 x1 x2
 | _=>false
theorem zIa (h:zJy e k=true):∃ x0 x1 x2,e=.Tuple x0 x1 x2/\k x0 x1 x2=true:=by
 cases e with
 | Tuple x0 x1 x2=>exact⟨x0,x1,x2,rfl,h⟩
 | _=>exact(zzf h)
def zJ2 (e:Expr)(k:List Expr->Pos->Bool):Bool:=match e with
 | .List x0 x1=>k x0 x1
 | _=>false
theorem zGE (h:zJ2 e k=true):∃ x0 x1,e=.List x0 x1/\k x0 x1=true:=by
 cases e with
 | List x0 x1=>exact⟨x0,x1,rfl,h⟩
 | _=>exact(zzf h)
def zCC (e:Expr)(k:Expr->Expr->Pos->Bool):Bool:=match e with
 | .Subscript x0 x1 x2=>k x0 x1 x2
 | _=>false
theorem zBw (h:zCC e k=true):∃ x0 x1 x2,e=.Subscript x0 x1 x2/\k x0 x1 x2=true:=by
 cases e with
 | Subscript x0 x1 x2=>exact⟨x0,x1,x2,rfl,h⟩
 | _=>exact(zzf h)
def zJz (e:Expr)(k:Option Expr->Option Expr->Option Expr->Pos->Bool):Bool:=match e with
 | .Slice x0 x1 x2 x3=>k x0 x1 x2 x3
 | _=>false
theorem zIb (h:zJz e k=true):∃ x0 x1 x2 x3,e=.Slice x0 x1 x2 x3/\k x0 x1 x2 x3=true:=by
 cases e with
 | Slice x0 x1 x2 x3=>exact⟨x0,x1,x2,x3,rfl,h⟩
 | _=>exact(zzf h)
def zAv (e:Expr)(k:Expr->List Expr->List Keyword->Pos->Bool):Bool:=match e with
 | .Call x0 x1 x2 x3=>k x0 x1 x2 x3
 | _=>false
theorem zAQ (h:zAv e k=true):∃ x0 x1 x2 x3,e=.Call x0 x1 x2 x3/\k x0 x1 x2 x3=true:=by
 cases e with
 | Call x0 x1 x2 x3=>exact⟨x0,x1,x2,x3,rfl,h⟩
 | _=>exact(zzf h)
def zDU (e:Expr)(k:Expr->List Comprehension->Scope->Pos->Bool):Bool:=match e with
 | .ListComp x0 x1 x2 x3=>k x0 x1 x2 x3
 | _=>false
theorem zCD (h:zDU e k=true):∃ x0 x1 x2 x3,e=.ListComp x0 x1 x2 x3/\k x0 x1 x2 x3=true:=by
 cases e with
 | ListComp x0 x1 x2 x3=>exact⟨x0,x1,x2,x3,rfl,h⟩
 | _=>exact(zzf h)
def zAz (e:Expr)(k:Expr->Str->Pos->Bool):Bool:=match e with
 | .Attribute x0 x1 x2=>k x0 x1 x2
 | _=>false
theorem zAl (h:zAz e k=true):∃ x0 x1 x2,e=.Attribute x0 x1 x2/\k x0 x1 x2=true:=by
 cases e with
 | Attribute x0 x1 x2=>exact⟨x0,x1,x2,rfl,h⟩
 | _=>exact(zzf h)
def zCi (e:Stmt)(k:List Expr->Expr->Pos->Bool):Bool:=match e with
 | .Assign x0 x1 x2=>k x0 x1 x2
 | _=>false
theorem zBk (h:zCi e k=true):∃ x0 x1 x2,e=.Assign x0 x1 x2/\k x0 x1 x2=true:=by
 cases e with
 | Assign x0 x1 x2=>exact⟨x0,x1,x2,rfl,h⟩
 | _=>exact(zzf h)
def zEE (e:Stmt)(k:Expr->Operator->Expr->Pos->Bool):Bool:=match e with
 | .AugAssign x0 x1 x2 x3=>k x0 x1 x2 x3
 | _=>false
theorem zEg (h:zEE e k=true):∃ x0 x1 x2 x3,e=.AugAssign x0 x1 x2 x3/\k x0 x1 x2 x3=true:=by
 cases e with
 | AugAssign x0 x1 x2 x3=>exact⟨x0,x1,x2,x3,rfl,h⟩
 | _=>exact(zzf h)
def zEA (e:Stmt)(k:Expr->Pos->Bool):Bool:=match e with
 | .Expr x0 x1=>k x0 x1
 | _=>false
theorem zCh (h:zEA e k=true):∃ x0 x1,e=.Expr x0 x1/\k x0 x1=true:=by
 cases e with
 | Expr x0 x1=>exact⟨x0,x1,rfl,h⟩
 | _=>exact(zzf h)
def onIf (e:Stmt)(k:Expr->List Stmt->List Stmt->Pos->Bool):Bool:=match e with
 | .If x0 x1 x2 x3=>k x0 x1 x2 x3
 | _=>false
theorem zJ3 (h:onIf e k=true):∃ x0 x1 x2 x3,e=.If x0 x1 x2 x3/\k x0 x1 x2 x3=true:=by
 cases e with
 | If x0 x1 x2 x3=>exact⟨x0,x1,x2,x3,rfl,h⟩
 | _=>exact(zzf h)
noncomputable def zJx (e:Stmt)(k:Expr->List Stmt->List Stmt->Pos->Bool):Bool:=match e with
 | .While x0 x1 x2 x3=>k x0 x1 x2 x3
 | _=>false
theorem zIZ (h:zJx e k=true):∃ x0 x1 x2 x3,e=.While x0 x1 x2 x3/\k x0 x1 x2 x3=true:=by
 cases e with
 | While x0 x1 x2 x3=>exact⟨x0,x1,x2,x3,rfl,h⟩
 | _=>exact(zzf h)
def zPY (e:Stmt)(k:Expr->Expr->List Stmt->List Stmt->Pos->Bool):Bool:=match e with
 | .For x0 x1 x2 x3 x4=>k x0 x1 x2 x3 x4
 | _=>false
theorem zHp (h:zPY e k=true):∃ x0 x1 x2 x3 x4,e=.For x0 x1 x2 x3 x4/\k x0 x1 x2 x3 x4=true:=by
 cases e with
 | For x0 x1 x2 x3 x4=>exact⟨x0,x1,x2,x3,x4,rfl,h⟩
 | _=>exact(zzf h)
def zDy (e:Stmt)(k:Option Expr->Pos->Bool):Bool:=match e with
 | .Return x0 x1=>k x0 x1
 | _=>false
theorem zCy (h:zDy e k=true):∃ x0 x1,e=.Return x0 x1/\k x0 x1=true:=by
 cases e with
 | Return x0 x1=>exact⟨x0,x1,rfl,h⟩
 | _=>exact(zzf h)
def onRaise (e:Stmt)(k:Option Expr->Option Expr->Pos->Bool):Bool:=match e with
 | .Raise x0 x1 x2=>k x0 x1 x2
 | _=>false
def zOF (e:Const)(k:Int->Bool):Bool:=match e with
 | .int x=>k x
 | _=>false
theorem zJ6 (h:zOF e k=true):∃ x,e=.int x/\k x=true:=by
 cases e with
 | int x=>exact⟨x,rfl,h⟩
 | _=>exact(zzf h)
def zJ7 (e:Const)(k:Bool->Bool):Bool:=match e with
 | .bool x=>k x
 | _=>false
theorem zId (h:zJ7 e k=true):∃ x,e=.bool x/\k x=true:=by
 cases e with
 | bool x=>exact⟨x,rfl,h⟩
 | _=>exact(zzf h)
def zOE (e:Const)(k:Str->Bool):Bool:=match e with
 | .str x=>k x
 | _=>false
theorem zJ5 (h:zOE e k=true):∃ x,e=.str x/\k x=true:=by
 cases e with
 | str x=>exact⟨x,rfl,h⟩
 | _=>exact(zzf h)
noncomputable def onEq {U:Type}[DecidableEq U](a b:U)(k:Bool):Bool:=decide (a=b)&&k
theorem zDV {U:Type}[DecidableEq U]{a b:U}{k:Bool}(h:onEq a b k=true):a=b/\k=true:=by
 unfold onEq at h;exact⟨of_decide_eq_true (x9 _ _▸h).1,(x9 _ _▸h).2⟩
noncomputable def on0 {U:Type}(l:List U)(k:Bool):Bool:=match l with
 | []=>k
 | _=>false
theorem zAm {U:Type}{l:List U}{k:Bool}(h:on0 l k=true):l=[]/\k=true:=by
 cases l with
 | nil=>exact⟨rfl,h⟩
 | cons _ _=>exact(zzf h)
noncomputable def on1 {U:Type}(l:List U)(k:U->Bool):Bool:=match l with
 | [x0]=>k x0
 | _=>false
theorem zA5 {U:Type}{l:List U}{k:U->Bool}(h:on1 l k=true):∃ x0,l=[x0]/\k x0=true:=by
 cases l with
 | nil=>exact(zzf h)
 | cons x0 l =>
  cases l with
  | nil=>exact⟨x0,rfl,h⟩
  | cons _ _=>exact(zzf h)
noncomputable def on2 {U:Type}(l:List U)(k:U->U->Bool):Bool:=match l with
 | [x0,x1]=>k x0 x1
 | _=>false
theorem zDi {U:Type}{l:List U}{k:U->U->Bool}(h:on2 l k=true):∃ x0 x1,l=[x0,x1]/\k x0 x1=true:=by
 cases l with
 | nil=>exact(zzf h)
 | cons x0 l =>
  cases l with
  | nil=>exact(zzf h)
  | cons x1 l =>
   cases l with
   | nil=>exact⟨x0,x1,rfl,h⟩
   | cons _ _=>exact(zzf h)
noncomputable def on3 {U:Type}(l:List U)(k:U->U->U->Bool):Bool:=match l with
 | [x0,x1,x2]=>k x0 x1 x2
 | _=>false
theorem zR3 {U:Type}{l:List U}{k:U->U->U->Bool}(h:on3 l k=true):∃ x0 x1 x2,l=[x0,x1,x2]/\k x0 x1 x2=true:=by
 cases l with
 | nil=>exact(zzf h)
 | cons x0 l =>
  cases l with
  | nil=>exact(zzf h)
  | cons x1 l =>
   cases l with
   | nil=>exact(zzf h)
   | cons x2 l =>
    cases l with
    | nil=>exact⟨x0,x1,x2,rfl,h⟩
    | cons _ _=>exact(zzf h)
def zGF {U:Type}(l:List U)(k:U->List U->Bool):Bool:=match l with
 | x::xs=>k x xs
 | _=>false
theorem zDA {U:Type}{l:List U}{k:U->List U->Bool}(h:zGF l k=true):∃ x xs,l=x::xs/\k x xs=true:=by
 cases l with
 | nil=>exact(zzf h)
 | cons x xs=>exact⟨x,xs,rfl,h⟩
def zGD {U:Type}(o:Option U)(k:U->Bool):Bool:=match o with
 | some x=>k x
 | none=>false
theorem zEB {U:Type}{o:Option U}{k:U->Bool}(h:zGD o k=true):∃ x,o=some x/\k x=true:=by
 cases o with
 | none=>exact(zzf h)
 | some x=>exact⟨x,rfl,h⟩
def zJ1 {U:Type}(o:Option U)(k:Bool):Bool:=match o with
 | some _=>false
 | none=>k
theorem zJ0 {U:Type}{o:Option U}{k:Bool}(h:zJ1 o k=true):o=none/\k=true:=by
 cases o with
 | none=>exact⟨rfl,h⟩
 | some x=>exact(zzf h)
def zPX (g:Comprehension)(k:Expr->Expr->List Expr->Int->Bool):Bool:=k g.target g.iter g.ifs g.is_async
theorem zFV (h:zPX g k=true):∃ a b c d,g=⟨a,b,c,d⟩/\k a b c d=true:=by
 cases g;exact⟨_,_,_,_,rfl,h⟩
mutual
noncomputable def cE:E->Scope->List Str->List Str->Expr->Bool
 | .var i,sc,N,bs=>λe=>zAX e λy _=>decide (N[i]?=some y)&&visB sc y&&okN y
 | .glob _ x,sc,N,bs=>λe=>zAX e λy _=>decide (x=y)&&glB sc x&&okN x
 | .int i,sc,N,bs=>λe=>zB2 e λz1 _ _=>zOF z1 λj=>decide (i=j)
 | .bl b,sc,N,bs=>λe=>zB2 e λz1 _ _=>zJ7 z1 λc=>decide (b=c)
 | .non,sc,N,bs=>λe=>zB2 e λz1 _ _=>onEq z1 .none<|(true)
 | .str x,sc,N,bs=>λe=>zB2 e λz1 _ _=>zOE z1 λy=>decide (x=y)
 | .bin op a b,sc,N,bs=>λe=>zJ8 e λl op' r _=>opB op op'&&cE a sc N bs l&&cE b sc N bs r
 | .neg a,sc,N,bs=>λe=>zC9 e λz1 l _=>onEq z1 .USub<|(cE a sc N bs l)
 | .not a,sc,N,bs=>λe=>zC9 e λz1 l _=>onEq z1 .Not<|(cE a sc N bs l)
 | .cmp op a b,sc,N,bs=>λe=>zEC e λl z1 z2 _=>on1 z1 λop'=>on1 z2 λr=>cmB op op'&&cE a sc N bs l&&cE b sc N bs r
 | .andl es,sc,N,bs=>λe=>zFW e λz1 l _=>onEq z1 .And<|(cEs es sc N bs l)
 | .orl es,sc,N,bs=>λe=>zFW e λz1 l _=>onEq z1 .Or<|(cEs es sc N bs l)
 | .ite c a b,sc,N,bs=>λe=>zJ4 e λt l r _=>cE c sc N bs t&&cE a sc N bs l&&cE b sc N bs r
 | .tup es,sc,N,bs=>λe=>zJy e λl _ _=>cEs es sc N bs l
 | .lst es,sc,N,bs=>λe=>zJ2 e λl _=>cEs es sc N bs l
 | .ix a i,sc,N,bs=>λe=>zCC e λl r _=>zG2 r&&cE a sc N bs l&&cE i sc N bs r
 | .sl a lo hi,sc,N,bs=>λe=>zCC e λl z1 _=>zJz z1 λx y z2 _=>zJ1 z2<|(cE a sc N bs l&&cO lo sc N bs x&&cO hi sc N bs y)
 | .call _ f es,sc,N,bs=>λe=>zAv e λz1 l z2 _=>zAX z1 λy _=>on0 z2<|(decide (f=y)&&glB sc f&&okN f&&cEs es sc N bs l)
 | .len a,sc,N,bs=>λe=>zAv e λz1 z2 z3 _=>zAX z1 λy _=>on1 z2 λl=>on0 z3<|(decide (y = "len")&&bltB sc bs "len"&&zAb l&&cE a sc N bs l)
 | .callv i a,sc,N,bs=>λe=>zAv e λz1 z2 z3 _=>zAX z1 λy _=>on1 z2 λx=>on0 z3<|(decide (N[i]?=some y)&&visB sc y&&okN y&&zAb x&&cE a sc N bs x)
 | .fld a f,sc,N,bs=>λe=>zAz e λl m _=>decide (m=f)&&zR6 l&&cE a sc N bs l
 | .iso y0 a,sc,N,bs=>λe=>zAv e λz1 z2 z3 _=>zAX z1 λy _=>on2 z2 λl z4=>zAX z4 λz _=>on0 z3<|(decide (y = "isinstance")&&decide (z=y0)&&bltB sc bs "isinstance"&&glB sc y0&&okN y0&&zAb l&&cE a sc N bs l)
 | .abs a,sc,N,bs=>λe=>zAv e λz1 z2 z3 _=>zAX z1 λy _=>on1 z2 λl=>on0 z3<|(decide (y = "abs")&&bltB sc bs "abs"&&zAb l&&cE a sc N bs l)
 | .list a,sc,N,bs=>λe=>zAv e λz1 z2 z3 _=>zAX z1 λy _=>on1 z2 λl=>on0 z3<|(decide (y = "list")&&bltB sc bs "list"&&zAb l&&cE a sc N bs l)
 | .max a b,sc,N,bs=>λe=>zAv e λz1 z2 z3 _=>zAX z1 λy _=>on2 z2 λl r=>on0 z3<|(decide (y = "max")&&bltB sc bs "max"&&zAb l&&zAb r&&cE a sc N bs l&&cE b sc N bs r)
 | .isi t a,sc,N,bs=>λe=>zAv e λz1 z2 z3 _=>zAX z1 λy _=>on2 z2 λl z4=>zAX z4 λz _=>on0 z3<|(decide (y = "isinstance")&&decide (z=Str.ofString t.nm)&&bltB sc bs "isinstance"&&bltB sc bs (Str.ofString t.nm)&&zAb l&&cE a sc N bs l)
 | .chn op op' a b c,sc,N,bs=>λe=>zEC e λl z1 z2 _=>on2 z1 λo1 o2=>on2 z2 λm r=>cmB op o1&&cmB op' o2&&chB op&&chB op'&&cE a sc N bs l&&cE b sc N bs m&&cE c sc N bs r
 | .lrev a,sc,N,bs=>λe=>zAv e λz1 z2 z3 _=>zAX z1 λy _=>on1 z2 λz4=>zAv z4 λz5 z6 z7 _=>zAX z5 λz _=>on1 z6 λl=>on0 z7<|on0 z3<|(decide (y = "list")&&decide (z = "reversed")&&bltB sc bs "list"&&bltB sc bs "reversed"&&zAb l&&cE a sc N bs l)
 | .tupl a,sc,N,bs=>λe=>zAv e λz1 z2 z3 _=>zAX z1 λy _=>on1 z2 λl=>on0 z3<|(decide (y = "tuple")&&bltB sc bs "tuple"&&zAb l&&cE a sc N bs l)
 | .comp1 n ms x src c el,sc,N,bs=>λe=>zDU e λv z1 scope _=>on1 z1 λz2=>zPX z2 λz3 t ifs a=>zAX z3 λy _=>decide (x=y)&&decide (a=0)&&decide (n=N.length)&&cscB sc scope&&zMe scope N ms&&decide ((mask noN ms N++[x]).Nodup)&&locB (relS sc scope) x&&ownB scope x&&cI src sc N bs t&&cC c (relS sc scope) (mask noN ms N++[x]) bs ifs&&cE el (relS sc scope) (mask noN ms N++[x]) bs v
 | .lzip a b,sc,N,bs=>λe=>zAv e λz1 z2 z3 _=>zAX z1 λy _=>on1 z2 λz4=>zAv z4 λz5 z6 z7 _=>zAX z5 λz _=>on2 z6 λl r=>on0 z7<|on0 z3<|(decide (y = "list")&&decide (z = "zip")&&bltB sc bs "list"&&bltB sc bs "zip"&&zAb l&&zAb r&&cE a sc N bs l&&cE b sc N bs r)
 | .it _,sc,N,bs=>λ_=>false
 | .r1 _,sc,N,bs=>λ_=>false
 | .r2 _ _,sc,N,bs=>λ_=>false
 | .r3 _ _ _,sc,N,bs=>λ_=>false
 | .nil,sc,N,bs=>λ_=>false
 | .cons _ _,sc,N,bs=>λ_=>false
noncomputable def cI:E->Scope->List Str->List Str->Expr->Bool
 | .it e,sc,N,bs=>λx=>zKB x&&cE e sc N bs x
 | .r1 a,sc,N,bs=>λx=>zAv x λz1 z2 z3 _=>zAX z1 λy _=>on1 z2 λl=>on0 z3<|(decide (y = "range")&&bltB sc bs "range"&&zAb l&&cE a sc N bs l)
 | .r2 a b,sc,N,bs=>λx=>zAv x λz1 z2 z3 _=>zAX z1 λy _=>on2 z2 λl r=>on0 z3<|(decide (y = "range")&&bltB sc bs "range"&&zAb l&&zAb r&&cE a sc N bs l&&cE b sc N bs r)
 | .r3 a b c,sc,N,bs=>λx=>zAv x λz1 z2 z3 _=>zAX z1 λy _=>on3 z2 λl r q=>on0 z3<|(decide (y = "range")&&bltB sc bs "range"&&zAb l&&zAb r&&zAb q&&cE a sc N bs l&&cE b sc N bs r&&cE c sc N bs q)
 | _,_,_,_=>λ_=>false
noncomputable def cC:E->Scope->List Str->List Str->List Expr->Bool
 | .nil,sc,N,bs=>λl=>l.isEmpty
 | .cons c _,sc,N,bs=>λl=>match l with
  | [x]=>cE c sc N bs x
  | _=>false
 | _,_,_,_=>λ_=>false
noncomputable def cEs:E->Scope->List Str->List Str->List Expr->Bool
 | .nil,sc,N,bs=>λl=>l.isEmpty
 | .cons e es,sc,N,bs=>λl=>match l with
  | x::xs=>zAb x&&cE e sc N bs x&&cEs es sc N bs xs
  | []=>false
 | _,_,_,_=>λ_=>false
noncomputable def cO:E->Scope->List Str->List Str->Option Expr->Bool
 | .cons e _,sc,N,bs=>λo=>match o with
  | some x=>cE e sc N bs x
  | none=>false
 | .nil,sc,N,bs=>λo=>o.isNone
 | _,_,_,_=>λ_=>false
end
def zPv:E->Bool
 | .comp1 _ _ _ _ _ _=>true
 | _=>false
noncomputable def varB (sc:Scope)(N:List Str)(i:Nat)(x:Str):Bool:=decide (N[i]?=some x)&&locB sc x&&okN x
mutual
noncomputable def cS (sc:Scope)(N bs:List Str):S->Stmt->Bool
 | .set i e=>λs=>zCi s λz1 v _=>on1 z1 λz2=>zAX z2 λy _=>varB sc N i y&&zEp v&&cE e sc N bs v
 | .setC i e=>λs=>zCi s λz1 v _=>on1 z1 λz2=>zAX z2 λy _=>zPv e&&varB sc N i y&&cE e sc N bs v
 | .app i e=>λs=>zEA s λz1 _=>zAv z1 λz2 z3 z4 cpos=>zAz z2 λz5 m apos=>zAX z5 λy _=>on1 z3 λv=>on0 z4<|(decide (m = "append")&&varB sc N i y&&(apos.endLine==cpos.line)&&zAb v&&cE e sc N bs v)
 | .aug op i e=>λs=>zEE s λz1 op' v _=>zAX z1 λy _=>opB op op'&&varB sc N i y&&zEp v&&cE e sc N bs v
 | .ext i e=>λs=>zEA s λz1 _=>zAv z1 λz2 z3 z4 cpos=>zAz z2 λz5 m apos=>zAX z5 λy _=>on1 z3 λv=>on0 z4<|(decide (m = "extend")&&varB sc N i y&&(apos.endLine==cpos.line)&&zAb v&&cE e sc N bs v)
 | .ife c a b=>λs=>onIf s λt l r _=>cE c sc N bs t&&cSs sc N bs a l&&cSs sc N bs b r
 | .whl c b=>λs=>zJx s λt l z1 _=>on0 z1<|(cE c sc N bs t&&cSs sc N bs b l)
 | .for1 i it b=>λs=>zPY s λz1 t l z2 _=>zAX z1 λy _=>on0 z2<|(varB sc N i y&&cI it sc N bs t&&cSs sc N bs b l)
 | .ret e=>λs=>zDy s λz1 _=>zGD z1 λv=>cE e sc N bs v
 | .retOwn i=>λs=>zDy s λz1 _=>zGD z1 λz2=>zAX z2 λy _=>varB sc N i y
 | .never=>λ_=>true
 | .rse c m=>λs=>onRaise s λz1 z2 _=>zGD z1 λz3=>zAv z3 λz4 z5 z6 _=>zAX z4 λy _=>on1 z5 λl=>on0 z6<|zJ1 z2<|(decide (c=y)&&glB sc c&&okN c&&zAb l&&cE m sc N bs l)
 | .nil=>λ_=>false
 | .cons _ _=>λ_=>false
 | .frz _ _=>λ_=>false
noncomputable def cSs (sc:Scope)(N bs:List Str):S->List Stmt->Bool
 | .nil=>λl=>l.isEmpty
 | .cons a b=>λl=>match l with
  | s::r=>cS sc N bs a s&&cSs sc N bs b r
  | []=>false
 | .frz _ r=>λl=>cSs sc N bs r l
 | _=>λ_=>false
end
end DL
end
section
namespace DL
open PySem Spec PyProof.Rows L2
structure GOk (P:Program)(w:World)(K:W.Frag)(mg:Str->Option Value)(base:Heap)(k:Nat)(J:Gm)(bs:List Str):Prop where
 fn:∀ x F,(x,F)∈J.fns->∃ f fd ps,FnOk P w K mg base CX0 k f fd ps (spD K F)/\mg x=some (.ref f)/\W.keepIn K (.ref f)=true/\zBU K fd ps []
 cs:∀ x d,(x,d)∈J.cs->∃ u v,mg x=some u/\RelV v u/\Den K (λ_=>none) d v
 bt:∀ x∈bs,mg x=none
 xf:True
 sb:True
 rs:True
 lm:∀ (j:Nat) L F,J.lm[j]?=some (L,F)->zFA P w K mg base k L F
 ob:∀ p∈J.ob,ObOk K mg p
structure XOk (X:Cx)(k:Nat)(J:Gm)(bs:List Str):Prop where
 g:GOk X.prog X.w X.K X.mg X.base k J bs
 room:Room k X.A
 calm:X.calm=true
 nd:X.N.Nodup
 own:PassesOwn (model X.prog X.w) X.A X.env X.xe
theorem XOk.comp (o:XOk X k J bs)(nd:N.Nodup):XOk (zAV X N scope s H fp) k J bs:=⟨o.g,o.room,o.calm,nd,PassesOwn.never⟩
theorem zAC (h:zAb e=true):starEach (e::es) env=(false,eval e env)::starEach es env:=by
 cases e<;>first | rfl | cases h
theorem zEn (h:zG2 e=true):zFs e:=by
 cases e<;>first | (intro o i;rfl) | cases h
theorem zC0 (h:zEp e=true):swapsWith e t n env=pure false:=by
 cases e<;>first | rfl | cases h
theorem zEo (h:zKB e=true):∀ x,foldedSetIterable e env x=pure x:=by
 intro x;cases e<;>first | rfl | cases h
theorem zFE (h:visB sc x=true):Vis sc x:=by
 unfold visB at h;split at h
 .rename_i e;exact .inl e
 .rename_i e;exact .inr (.inl e)
 .rename_i e;exact .inr (.inr e)
 .cases h
theorem zEI (h:locB sc x=true):Loc sc x:=by
 unfold locB at h;split at h
 .rename_i e;exact .inl e
 .rename_i e;exact .inr e
 .cases h
theorem zMl (h:locB sc x=true):Vis sc x:=(zEI h).elim .inl λe=>.inr (.inl e)
theorem zDk (h:glB X.env.scope x=true):Gl X x:=by
 unfold glB at h;split at h
 .rename_i e;exact e
 .cases h
theorem zB3 (h:okN x=true):(x==("__debug__":Str))=false/\(x==("__classdict__":Str))=false:=by
 unfold okN at h;rw[x9] at h;exact⟨by simpa using h.1,by simpa using h.2⟩
theorem zA8 (o:XOk X k J bs)(h:bltB X.env.scope bs x=true):Gl X x/\X.mg x=none:=by
 unfold bltB at h;rw[x9] at h;exact⟨zDk h.1,o.g.bt x (by simpa using h.2)⟩
theorem zFF (o:XOk X k J bs):X.A.units+64 < cLine:=o.room.units
theorem zBN {X:Cx}:∀ {es:List Expr},(∀ e∈es,zAb e=true)->∀ pos,(backTo pos (starEach es X.env)).any (·.1)=false
 | [],_,_=>rfl
 | e::es,h,pos=>by
  rw[zAC (h e q8)];show (false||(backTo pos (starEach es X.env)).any (·.1))=false;rw[zBN (λe z=>h e (qJ _ z)) pos]
  rfl
theorem zLi :∀ {es:List Expr},cEs a sc N bs es=true->∀ e∈es,zAb e=true:=by
 induction a with
 | nil =>
  intro es h;cases es with
  | nil=>intro e z;exact absurd z (by simp)
  | cons x xs=>exact zzf h
 | cons a b _ ih =>
  intro es h;cases es with
  | nil=>intro e z;exact absurd z (by simp)
  | cons x xs =>
   simp only[cEs,x9] at h;intro e z;rcases mem_cons.mp z with rfl | z
   .exact h.1.1
   .exact ih h.2 e z
 | _=>intro es h;exact zzf h
end DL
namespace DL
open PySem Spec PyProof.Rows L2
section
variable {X:Cx}
theorem zCZ (h:∀ G,f G=none):GE X e f:=λpins s B H Q I zz80=>by
 obtain⟨S,G,z,ds,e,c⟩:=zz80;rw[h G] at e;cases e
theorem zFG (h:∀ x y,o x y=none)(G:Dst):two f g o G=none:=by
 unfold two;cases f G with
 | none=>rfl
 | some x =>
  cases g G with
  | none=>rfl
  | some y=>exact h _ _
noncomputable def zRX (K:W.Frag):R2:=λx y H Q=>∃ l b xs zs,x=.ref l/\y=.ref b/\SqL K H l xs/\SqL K H b zs/\xs.length+zs.length<=sizeLine/\∀ p,H p=none->Q (.ref p) (upd H p (.lst (xs++zs)))
theorem zPT:OpR X (binaryOp .Add) (zRX X.K):=by
 intro pins s B H x y v u Q I rx ry h;obtain⟨l,b,xs,zs,rfl,rfl,hl,hb,hz,q⟩:=h;cases rx;cases ry;obtain⟨its,rv,⟨⟨cls,dd,data,sl⟩,n,e1,e2,e3,e4⟩,z1⟩:=I.list hl;obtain⟨its2,rv2,⟨⟨cls2,dd2,data2,sl2⟩,n2,e1',e2',e3',e4'⟩,z2⟩:=I.list hb;simp only at e2 e3 e4 e2' e3' e4';subst e2 e4 e2' e4';have hsz:its.toArray.size+its2.toArray.size<=sizeLine:=by rw[xy,xy,<- rv.length,<- rv2.length];exact hz
 refine concat_meets ⟨_,e1,rfl⟩ ⟨_,e1',rfl⟩ noFill_list_add seq_list_add F.slot_list_add F.entry_list_add (F.args_list_add_2 _ _) (zGL l _ n dd sl b _ n2 dd2 sl2 hsz) ⟨e1,e1',?_⟩;have ea:its.toArray++its2.toArray=(its++its2).toArray:=by simp
 rw[ea];exact⟨.ref _,_,I.lnew (t':=s.toks) (rv.append rv2) (by rw[qQ];exact hz),rfl,q _ I.fresh⟩
theorem zPM:OpD X.K (λx y H Q=>(rI0 (λi j=>.int (i+j)) x y H Q\/zRX X.K x y H Q)\/zRW X.K x y H Q) (binD .Add):=by
 intro S H x y z vx vy Q sok e rx ry c;unfold binD at e;dsimp only at e;split at e
 .cases e;exact .inl (.inl ⟨_,_,rx.int,ry.int,c _ H (Same.refl _) (.int _)⟩)
 .rename_i xs ys;by_cases hl:xs.length+ys.length<=10000
  .rw [if_pos hl] at e;cases e;obtain⟨a,vs,rfl,h1,h2⟩:=rx.lst;obtain⟨b,ws,rfl,h3,h4⟩:=ry.lst;exact .inl (.inr ⟨a,b,vs,ws,rfl,rfl,h1,h3,by rw[<- h2.length,<- h4.length];exact zCs hl,λp n=>c _ _ (zAp n _) (.lstNew (Same.refl _) sok n (h2.append h4))⟩)
  .rw [if_neg hl] at e;cases e
 .rename_i x xs y ys;by_cases hl:(x::xs).length+(y::ys).length<=10000
  .rw [if_pos hl] at e;cases e;obtain⟨a,vs,rfl,h1,h2⟩:=rx.tup;obtain⟨b,ws,rfl,h3,h4⟩:=ry.tup;have n1:vs≠[]:=λz=>by rw[z] at h2;have:=h2.length;simp at this
   have n2:ws≠[]:=λz=>by rw[z] at h4;have:=h4.length;simp at this
   exact .inr ⟨a,b,vs,ws,rfl,rfl,h1,h3,n1,by rw[<- h2.length,<- h4.length];exact zCs hl,λz=>absurd z n2,λ_ p n=>c _ _ (zAp n _) (.tupNew sok n (h2.append h4))⟩
  .rw [if_neg hl] at e;cases e
 .cases e
theorem zPJ:OpD X.K (λx y H Q=>rI IntMulOk (λi j=>.int (i*j)) x y H Q\/rRep X.K x y H Q) (binD .Mult):=by
 intro S H x y z vx vy Q sok e rx ry c;unfold binD at e;dsimp only at e;split at e
 .unfold mulD at e;split at e
  .rename_i h;cases e;exact .inl ⟨_,_,rx.int,ry.int,h,c _ H (Same.refl _) (.int _)⟩
  .cases e
 .rename_i xs j;by_cases hl:0<=j/\j<=10000/\xs.length*j.toNat<=10000
  .rw [if_pos hl] at e;cases e;obtain⟨a,vs,rfl,h1,h2⟩:=rx.lst;exact .inr ⟨a,vs,j,rfl,ry.int,h1,hl.1,hl.2.1,by rw[<- h2.length];exact hl.2.2,λp n=>c _ _ (zAp n _) (.lstNew (Same.refl _) sok n (zLZ h2 _))⟩
  .rw [if_neg hl] at e;cases e
 .cases e
theorem zS5 (ha:GE X a f)(hb:GE X b g):GE X (.BinOp a op b pos) (two f g (binD op)):=by
  cases op with
  | Add=>exact zIs ((zR2.or zPT).or zPS) zPM ha hb
  | Sub=>exact zIs zRr (zMY λx y z e=>by
      unfold binD at e;dsimp only at e;split at e
      . cases e;exact⟨_,_,rfl,rfl,rfl⟩
      . cases e) ha hb
  | Mult=>exact zIs (zPQ.or zRs) zPJ ha hb
  | FloorDiv=>exact zIs zMZ (zG0 λx y z e=>by
      unfold binD at e;dsimp only at e;split at e
      . unfold zNE at e;split at e
        . rename_i h;cases e;exact⟨_,_,rfl,rfl,h,rfl⟩
        . cases e
      . cases e) ha hb
  | Mod=>exact zIs zPR (zG0 λx y z e=>by
      unfold binD at e;dsimp only at e;split at e
      . split at e
        . cases e
        . rename_i h;cases e;exact⟨_,_,rfl,rfl,h,rfl⟩
      . cases e) ha hb
  | Pow=>exact zIs zRt (zG0 λx y z e=>by
      unfold binD at e;dsimp only at e;split at e
      . split at e
        . rename_i h;cases e;exact⟨_,_,rfl,rfl,h,rfl⟩
        . cases e
      . cases e) ha hb
  | _=>exact zCZ (zFG λ_ _=>rfl)
theorem zBs {k:Int->Int->Bool}(h:cmpD op=λx y=>match x,y with
    | .int i,.int j=>some (.bl (k i j),.cl)
    | _,_=>none):∀ x y z,cmpD op x y=some z->∃ i j,x=.int i/\y=.int j/\z=(.bl (k i j),.cl):=by
  intro x y z e;rw[h] at e;dsimp only at e;split at e
  . cases e;exact⟨_,_,rfl,rfl,rfl⟩
  . cases e
theorem zNc (hu:X.A.units+64 < cLine):(∃ r,OpR X (compareOp op) r/\OpD X.K r (cmpD op)/\∀ b,behindInMarks op b=false)\/∀ x y,cmpD op x y=none:=by
 cases op with
 | Lt=>exact .inl ⟨_,zRv,zBP (zBs rfl),λb=>zDB b⟩
 | LtE=>exact .inl ⟨_,zRw,zBP (zBs rfl),λb=>zDB b⟩
 | Gt=>exact .inl ⟨_,zRy,zBP (zBs rfl),λb=>zDB b⟩
 | GtE=>exact .inl ⟨_,zR0,zBP (zBs rfl),λb=>zDB b⟩
 | Eq=>exact .inl ⟨_,zR1 hu,zOC,λb=>zDB b⟩
 | NotEq=>exact .inl ⟨_,zRu hu,zOC,λb=>zDB b⟩
 | Is=>exact .inl ⟨_,zRx,zPL,λb=>zDB b⟩
 | IsNot=>exact .inl ⟨_,zPP,zMX,λb=>zDB b⟩
 | _=>exact .inr λ_ _=>rfl
theorem zG8 (h:∀ G,f G=none):GT X e (asB f):=λpins s B H Q I zz81=>by
 obtain⟨S,G,z,ds,e,c⟩:=zz81;obtain⟨k,e⟩:=zCN e;rw[h G] at e;cases e
theorem zQK (hu:X.A.units+64 < cLine)(ha:GE X a f)(hb:GE X b g):GE X (.Compare a [op] [b] pos) (two f g (cmpD op))/\GT X (.Compare a [op] [b] pos) (asB (two f g (cmpD op))):=by
 rcases zNc (X:=X) (op:=op) hu with ⟨r,h1,h2,h3⟩ | h
 .exact ⟨zS4 h1 h2 (h3 b) ha hb,zSf h1 h2 (h3 b) ha hb⟩
 .exact ⟨zCZ (zFG h),zG8 (zFG h)⟩
theorem zA3 (h:GE X e f)(he:∀ whole,isTrue e X.env whole=(do let v<-whole;standAt e.pos;holding [v] (truthy v))):GE X e f/\GT X e (asB f):=⟨h,zSc h he⟩
structure Good (X:Cx)(J:Gm)(bs:List Str)(a:E):Prop where
 e:∀ e,cE a X.env.scope X.N bs e=true->GE X e (evE J a)/\GT X e (asB (evE J a))
 es:∀ es,cEs a X.env.scope X.N bs es=true->(GA X es (evEs J a)/\GAL X es (evLs J a))/\(es≠[]->∀ pos,(GE X (.BoolOp .And es pos) (evAnd J a)/\GW X (.BoolOp .And es pos) (asB (evAnd J a)))/\GE X (.BoolOp .Or es pos) (evOr J a)/\GW X (.BoolOp .Or es pos) (asB (evOr J a)))
 o:∀ oe,cO a X.env.scope X.N bs oe=true->GO X oe (evO J a)
 i:∀ it,cI a X.env.scope X.N bs it=true->(∀ tg,GI X tg it (evI J a))/\∀ x,foldedSetIterable it X.env x=pure x
 c:∀ ifs,cC a X.env.scope X.N bs ifs=true->GCs X ifs (evC J a)
theorem Good.of (h:∀ e,cE a X.env.scope X.N bs e=true->GE X e (evE J a)/\GT X e (asB (evE J a)))(h2:∀ es,cEs a X.env.scope X.N bs es=false)(h3:∀ oe,cO a X.env.scope X.N bs oe=false)(h4:∀ it,cI a X.env.scope X.N bs it=false)(h5:∀ ifs,cC a X.env.scope X.N bs ifs=false):Good X J bs a :=
 ⟨h,λes q=>absurd (h2 es) (by rw[q];decide),λoe q=>absurd (h3 oe) (by rw[q];decide),λit q=>absurd (h4 it) (by rw[q];decide),λifs q=>absurd (h5 ifs) (by rw[q];decide)⟩
theorem Good.ofI (h:∀ it,cI a X.env.scope X.N bs it=true->(∀ tg,GI X tg it (evI J a))/\∀ x,foldedSetIterable it X.env x=pure x)(h1:∀ e,cE a X.env.scope X.N bs e=false)(h2:∀ es,cEs a X.env.scope X.N bs es=false)(h3:∀ oe,cO a X.env.scope X.N bs oe=false)(h5:∀ ifs,cC a X.env.scope X.N bs ifs=false):Good X J bs a :=
 ⟨λe q=>absurd (h1 e) (by rw[q];decide),λes q=>absurd (h2 es) (by rw[q];decide),λoe q=>absurd (h3 oe) (by rw[q];decide),h,λifs q=>absurd (h5 ifs) (by rw[q];decide)⟩
structure zTm (X:Cx)(tg iter elt:Expr)(ifs:List Expr)(scope:Scope)(ms:List Nat)(xs:List Str)(f:Dst->Option (List D))(t:D->Dst->Option Dst)(c:Dst->Option Bool)(e:Dst->Option R):Prop where
 hi:GI X tg iter f
 hs:∀ x,foldedSetIterable iter X.env x=pure x
 cs:zCg X.env.scope scope
 hm:∀ (i:Nat) x,X.N[i]?=some x->ownB scope x=true->i∈ms
 hg:∀ s H fp,GG (zAV X (mask noN ms X.N++xs) scope s H fp) tg t
 hc:∀ s H fp,GCs (zAV X (mask noN ms X.N++xs) scope s H fp) ifs c
 he:∀ s H fp,GE (zAV X (mask noN ms X.N++xs) scope s H fp) elt e
theorem zHO (h:cscB sc scope=true):zCg sc scope:=by
 unfold cscB at h;simp only[x9,qj,beq_iff_eq,all_eq_true] at h;obtain⟨⟨h1,h2⟩,h3⟩:=h;refine⟨h1,h2,λx hx e=>?_⟩;have q:=h3 x hx;rw[e] at q;simpa using q
theorem zFa (h:zMe scope N ms=true):∀ (i:Nat) x,N[i]?=some x->ownB scope x=true->i∈ms:=λi x e o=>by
 unfold zMe at h;rw[all_eq_true] at h;have hi:i < N.length:=(zzg e).1;have q:=h i (mem_range.mpr hi);have ex:N.getD i noN=x:=by rw[getD_eq_getElem?_getD,e];rfl
 rw[ex,o] at q;simpa using q
theorem zK2 (h:xs[k]?=some x):(mask noN ms N++xs)[N.length+k]?=some x:=by
 rw[getElem?_append_right (by rw[zA0];omega),zA0];rw[Nat.add_sub_cancel_left];exact h
end
end DL
end
section
namespace DL
open PySem Spec PyProof.Rows L2
section
variable {X:Cx}{k:Nat}{J:Gm}{bs:List Str}
theorem zUW (o:XOk X k J bs)(hg:Gl X f)(hd:(f==("__debug__":Str))=false)(ha:GA X es g)(hst:∀ e∈es,zAb e=true)(he:es=[]->∀ G,g G=some []):GE X (.Call (.Name f p) es [] pos) (fnD J n f g):=by
 cases q:J.fns[n]? with
 | none=>exact zCZ λG=>by unfold fnD;rw[q]
 | some yF =>
  obtain⟨y,F⟩:=yF;by_cases e:y=f
  .subst e;have ef:fnD J n y g=zHS F g:=by
    funext G;unfold fnD;rw[q];exact if_pos rfl
   rw[ef];obtain⟨a,fd,ps,h1,h2,h3,h4⟩:=o.g.fn y F (mem_of_getElem? q);cases es with
   | nil =>
    have eg:g=λ_=>some []:=funext (he rfl)
    rw[eg];exact zM8 h1 o.room hg h2 h3 h4 hd
   | cons x xs=>exact zQL h1 o.room hg h2 h3 h4 ha hd (zAC (hst x q8)) (zBN λe z=>hst e (qJ _ z))
  .exact zCZ λG=>by
    unfold fnD;rw[q];exact if_neg e
theorem zUV (o:XOk X k J bs)(hg:Gl X x)(hd:(x==("__debug__":Str))=false):GE X (.Name x pos) (zGP J n x):=by
 cases q:J.cs[n]? with
 | none=>exact zCZ λG=>by unfold zGP;rw[q]
 | some yd =>
  obtain⟨y,d⟩:=yd;by_cases e:y=x
  .subst e;have ef:zGP J n y=λ_=>some (d,.cl):=by
    funext G;unfold zGP;rw[q];exact if_pos rfl
   rw[ef];obtain⟨u,v,h1,h2,h3⟩:=o.g.cs y d (mem_of_getElem? q);exact zQJ hg h1 h2 h3 hd
  .exact zCZ λG=>by
    unfold zGP;rw[q];exact if_neg e
theorem zQ0 (h:cEs a sc N bs []=true)(G:Dst):evEs J a G=some []:=by
 cases a<;>first | rfl | exact(zzf h)
theorem zIG (o:XOk X k J bs)(hs:Good X J bs src)(hc:∀ {X':Cx},XOk X' k J bs->Good X' J bs c)(he:∀ {X':Cx},XOk X' k J bs->Good X' J bs el)(h:cE (.comp1 n ms x src c el) X.env.scope X.N bs e=true) :
  ∃ tg iter elt ifs scope pos,e=.ListComp elt [⟨tg,iter,ifs,0⟩] scope pos/\zTm X tg iter elt ifs scope ms [x] (evI J src) (tg1 n) (evC J c) (evE J el):=by
 obtain⟨v,z1,scope,pos,rfl,hq1⟩:=zCD h;obtain⟨z2,rfl,hq2⟩:=zA5 hq1;obtain⟨z3,t,ifs,a,rfl,hq3⟩:=zFV hq2;obtain⟨y,py,rfl,hq4⟩:=zAF hq3;replace h:=hq4;simp only[x9,qj] at h;obtain⟨⟨⟨⟨⟨⟨⟨⟨⟨⟨rfl,rfl⟩,rfl⟩,h4⟩,h5⟩,h6⟩,h7⟩,h8⟩,h9⟩,h10⟩,h11⟩:=h;have cx:∀ s H fp,XOk (zAV X (mask noN ms X.N++[x]) scope s H fp) k J bs:=λs H fp=>o.comp h6
 refine⟨_,_,_,_,_,_,rfl,⟨(hs.i _ h9).1 _,(hs.i _ h9).2,zHO h4,zFa h5,λs H fp=>?_,λs H fp=>(hc (cx s H fp)).c _ h10,λs H fp=>((he (cx s H fp)).e _ h11).1⟩⟩;exact zKs (X:=zAV X (mask noN ms X.N++[x]) scope s H fp) h6 (zK2 (k:=0) rfl) (zEI h7) (.inl h8)
theorem zQI (h:∀ G,f G=none):GE X e f/\GT X e (asB f) :=
 ⟨λpins s B H Q I ⟨S,G,r,d,q,c⟩=>(by rw[h G] at q;cases q),λpins s B H Q I zy133=>by obtain⟨S,G,r,d,q,c⟩:=zy133;exact(by unfold asB at q;rw[h G] at q;cases q)⟩
theorem zIf (h:zR6 e=true):attributeBase e f X.env (eval e X.env)=eval e X.env:=by
 cases e with
 | Name _ _=>rfl
 | _=>exact(zzf h)
theorem zCo (o:XOk X k J bs)(a:E):Good X J bs a:=by
 have hu:=zFF o
 induction a generalizing X with
 | var i =>
  refine Good.of (λe h=>?_) (λ_=>rfl) (λ_=>rfl) (λ_=>rfl) λ_=>rfl
  obtain⟨_,_,rfl,hq1⟩:=zAF h;replace h:=hq1;simp only[x9,qj] at h;obtain⟨⟨h2,h3⟩,h4⟩:=h;obtain⟨n1,n2⟩:=zB3 h4;exact zA3 (zSs h2 (zFE h3) n1 n2) λ_=>rfl
 | glob n x =>
  refine Good.of (λe h=>?_) (λ_=>rfl) (λ_=>rfl) (λ_=>rfl) λ_=>rfl
  obtain⟨_,_,rfl,hq1⟩:=zAF h;replace h:=hq1;simp only[x9,qj] at h;obtain⟨⟨rfl,h2⟩,h4⟩:=h;exact zA3 (zUV o (zDk h2) (zB3 h4).1) λ_=>rfl
 | int i =>
  refine Good.of (λe h=>?_) (λ_=>rfl) (λ_=>rfl) (λ_=>rfl) λ_=>rfl
  obtain⟨z1,_,_,rfl,hq1⟩:=zBd h;obtain⟨_,rfl,hq2⟩:=zJ6 hq1;replace h:=hq2;simp only[qj] at h;subst h;exact zA3 ge_int λ_=>rfl
 | bl b =>
  refine Good.of (λe h=>?_) (λ_=>rfl) (λ_=>rfl) (λ_=>rfl) λ_=>rfl
  obtain⟨z1,_,_,rfl,hq1⟩:=zBd h;obtain⟨_,rfl,hq2⟩:=zId hq1;replace h:=hq2;simp only[qj] at h;subst h;exact zA3 zUX λ_=>rfl
 | non =>
  refine Good.of (λe h=>?_) (λ_=>rfl) (λ_=>rfl) (λ_=>rfl) λ_=>rfl
  obtain⟨z1,_,_,rfl,hq1⟩:=zBd h;obtain⟨rfl,hq2⟩:=zDV hq1;replace h:=hq2;exact zA3 zSx λ_=>rfl
 | str x =>
  refine Good.of (λe h=>?_) (λ_=>rfl) (λ_=>rfl) (λ_=>rfl) λ_=>rfl
  obtain⟨z1,_,_,rfl,hq1⟩:=zBd h;obtain⟨_,rfl,hq2⟩:=zJ5 hq1;replace h:=hq2;simp only[qj] at h;subst h;exact zA3 zSv λ_=>rfl
 | bin op a b iha ihb =>
  refine Good.of (λe h=>?_) (λ_=>rfl) (λ_=>rfl) (λ_=>rfl) λ_=>rfl
  obtain⟨_,_,_,_,rfl,hq1⟩:=zIe h;replace h:=hq1;simp only[x9,opB,qj] at h;obtain⟨⟨rfl,h1⟩,h2⟩:=h;exact zA3 (zS5 ((iha o hu).e _ h1).1 ((ihb o hu).e _ h2).1) λ_=>rfl
 | neg a iha =>
  refine Good.of (λe h=>?_) (λ_=>rfl) (λ_=>rfl) (λ_=>rfl) λ_=>rfl
  obtain⟨z1,_,_,rfl,hq1⟩:=zCW h;obtain⟨rfl,hq2⟩:=zDV hq1;replace h:=hq2;exact zA3 (zSy ((iha o hu).e _ h).1) λ_=>rfl
 | not a iha =>
  refine Good.of (λe h=>?_) (λ_=>rfl) (λ_=>rfl) (λ_=>rfl) λ_=>rfl
  obtain⟨z1,_,_,rfl,hq1⟩:=zCW h;obtain⟨rfl,hq2⟩:=zDV hq1;replace h:=hq2;exact⟨zSw ((iha o hu).e _ h).1,zSd ((iha o hu).e _ h).2⟩
 | cmp op a b iha ihb =>
  refine Good.of (λe h=>?_) (λ_=>rfl) (λ_=>rfl) (λ_=>rfl) λ_=>rfl
  obtain⟨_,z1,z2,_,rfl,hq1⟩:=zDh h;obtain⟨_,rfl,hq2⟩:=zA5 hq1;obtain⟨_,rfl,hq3⟩:=zA5 hq2;replace h:=hq3;simp only[x9,cmB,qj] at h;obtain⟨⟨rfl,h1⟩,h2⟩:=h;exact zQK hu ((iha o hu).e _ h1).1 ((ihb o hu).e _ h2).1
 | andl es ih =>
  refine Good.of (λe h=>?_) (λ_=>rfl) (λ_=>rfl) (λ_=>rfl) λ_=>rfl
  obtain⟨z1,l,pos,rfl,hq1⟩:=zED h;obtain⟨rfl,hq2⟩:=zDV hq1;replace h:=hq2;cases l with
  | nil =>
   have z:∀ G,evAnd J es G=none:=λG=>by cases es<;>first | rfl | exact(zzf h)
   exact⟨zCZ z,zG8 z⟩
  | cons x xs =>
   have q:=(((ih o hu).es _ h).2 (by simp) pos).1;exact⟨q.1,q.2.pt⟩
 | orl es ih =>
  refine Good.of (λe h=>?_) (λ_=>rfl) (λ_=>rfl) (λ_=>rfl) λ_=>rfl
  obtain⟨z1,l,pos,rfl,hq1⟩:=zED h;obtain⟨rfl,hq2⟩:=zDV hq1;replace h:=hq2;cases l with
  | nil =>
   have z:∀ G,evOr J es G=none:=λG=>by cases es<;>first | rfl | exact(zzf h)
   exact⟨zCZ z,zG8 z⟩
  | cons x xs =>
   have q:=(((ih o hu).es _ h).2 (by simp) pos).2;exact⟨q.1,q.2.pt⟩
 | ite c a b ihc iha ihb =>
  refine Good.of (λe h=>?_) (λ_=>rfl) (λ_=>rfl) (λ_=>rfl) λ_=>rfl
  obtain⟨_,_,_,_,rfl,hq1⟩:=zIc h;replace h:=hq1;simp only[x9] at h;obtain⟨⟨h0,h1⟩,h2⟩:=h;exact⟨zS0 ((ihc o hu).e _ h0).2 ((iha o hu).e _ h1).1 ((ihb o hu).e _ h2).1,zSe ((ihc o hu).e _ h0).2 ((iha o hu).e _ h1).2 ((ihb o hu).e _ h2).2⟩
 | tup es ih =>
  refine Good.of (λe h=>?_) (λ_=>rfl) (λ_=>rfl) (λ_=>rfl) λ_=>rfl
  obtain⟨_,_,_,rfl,hq1⟩:=zIa h;replace h:=hq1;exact zA3 (zSt ((ih o hu).es _ h).1.1) λ_=>rfl
 | lst es ih =>
  refine Good.of (λe h=>?_) (λ_=>rfl) (λ_=>rfl) (λ_=>rfl) λ_=>rfl
  obtain⟨_,_,rfl,hq1⟩:=zGE h;replace h:=hq1;exact zA3 (zSz ((ih o hu).es _ h).1.1) λ_=>rfl
 | ix a b iha ihb =>
  refine Good.of (λe h=>?_) (λ_=>rfl) (λ_=>rfl) (λ_=>rfl) λ_=>rfl
  obtain⟨_,_,_,rfl,hq1⟩:=zBw h;replace h:=hq1;simp only[x9] at h;obtain⟨⟨h0,h1⟩,h2⟩:=h;exact zA3 (zUU ((iha o hu).e _ h1).1 ((ihb o hu).e _ h2).1 (zEn h0)) λ_=>rfl
 | sl a lo hi iha ihl ihh =>
  refine Good.of (λe h=>?_) (λ_=>rfl) (λ_=>rfl) (λ_=>rfl) λ_=>rfl
  obtain⟨_,z1,_,rfl,hq1⟩:=zBw h;obtain⟨_,_,z2,_,rfl,hq2⟩:=zIb hq1;obtain⟨rfl,hq3⟩:=zJ0 hq2;replace h:=hq3;simp only[x9] at h;obtain⟨⟨h0,h1⟩,h2⟩:=h;exact zA3 (zUS ((iha o hu).e _ h0).1 ((ihl o hu).o _ h1) ((ihh o hu).o _ h2)) λ_=>rfl
 | call n f es ih =>
  refine Good.of (λe h=>?_) (λ_=>rfl) (λ_=>rfl) (λ_=>rfl) λ_=>rfl
  obtain⟨z1,_,z2,_,rfl,hq1⟩:=zAQ h;obtain⟨_,_,rfl,hq2⟩:=zAF hq1;obtain⟨rfl,hq3⟩:=zAm hq2;replace h:=hq3;simp only[x9,qj] at h;obtain⟨⟨⟨rfl,h2⟩,h3⟩,h4⟩:=h;exact zA3 (zUW o (zDk h2) (zB3 h3).1 ((ih o hu).es _ h4).1.1 (zLi h4) λe G=>by subst e;exact zQ0 h4 G) λ_=>rfl
 | len a iha =>
  refine Good.of (λe h=>?_) (λ_=>rfl) (λ_=>rfl) (λ_=>rfl) λ_=>rfl
  obtain⟨z1,z2,z3,_,rfl,hq1⟩:=zAQ h;obtain⟨_,_,rfl,hq2⟩:=zAF hq1;obtain⟨_,rfl,hq3⟩:=zA5 hq2;obtain⟨rfl,hq4⟩:=zAm hq3;replace h:=hq4;simp only[x9,qj] at h;obtain⟨⟨⟨rfl,h2⟩,h3⟩,h4⟩:=h;obtain⟨g1,g2⟩:=zA8 o h2;exact zA3 (zS6 zGe zPK g1 g2 PySem.boot_len ((iha o hu).e _ h4).1 (zAC h3) (by decide) (by decide)) λ_=>rfl
 | abs a iha =>
  refine Good.of (λe h=>?_) (λ_=>rfl) (λ_=>rfl) (λ_=>rfl) λ_=>rfl
  obtain⟨z1,z2,z3,_,rfl,hq1⟩:=zAQ h;obtain⟨_,_,rfl,hq2⟩:=zAF hq1;obtain⟨_,rfl,hq3⟩:=zA5 hq2;obtain⟨rfl,hq4⟩:=zAm hq3;replace h:=hq4;simp only[x9,qj] at h;obtain⟨⟨⟨rfl,h2⟩,h3⟩,h4⟩:=h;obtain⟨g1,g2⟩:=zA8 o h2;exact zA3 (zS6 zNf zPN g1 g2 boot_abs ((iha o hu).e _ h4).1 (zAC h3) (by decide) (by decide)) λ_=>rfl
 | list a iha =>
  refine Good.of (λe h=>?_) (λ_=>rfl) (λ_=>rfl) (λ_=>rfl) λ_=>rfl
  obtain⟨z1,z2,z3,_,rfl,hq1⟩:=zAQ h;obtain⟨_,_,rfl,hq2⟩:=zAF hq1;obtain⟨_,rfl,hq3⟩:=zA5 hq2;obtain⟨rfl,hq4⟩:=zAm hq3;replace h:=hq4;simp only[x9,qj] at h;obtain⟨⟨⟨rfl,h2⟩,h3⟩,h4⟩:=h;obtain⟨g1,g2⟩:=zA8 o h2;exact zA3 (zSu zGd zMW g1 g2 boot_list ((iha o hu).e _ h4).1 (zAC h3) (by decide) (by decide)) λ_=>rfl
 | max a b iha ihb =>
  refine Good.of (λe h=>?_) (λ_=>rfl) (λ_=>rfl) (λ_=>rfl) λ_=>rfl
  obtain⟨z1,z2,z3,_,rfl,hq1⟩:=zAQ h;obtain⟨_,_,rfl,hq2⟩:=zAF hq1;obtain⟨_,_,rfl,hq3⟩:=zDi hq2;obtain⟨rfl,hq4⟩:=zAm hq3;replace h:=hq4;simp only[x9,qj] at h;obtain⟨⟨⟨⟨⟨rfl,h2⟩,h3⟩,h4⟩,h5⟩,h6⟩:=h;obtain⟨g1,g2⟩:=zA8 o h2;exact zA3 (zUY (zLg o.calm) (λx y z e=>by
   unfold maxD at e;split at e
   .cases e;exact⟨_,_,rfl,rfl,rfl⟩
   .cases e) g1 g2 boot_max ((iha o hu).e _ h5).1 ((ihb o hu).e _ h6).1 (zAC h3) (zAC h4) (by decide) (by decide)) λ_=>rfl
 | isi t a iha =>
  refine Good.of (λe h=>?_) (λ_=>rfl) (λ_=>rfl) (λ_=>rfl) λ_=>rfl
  obtain⟨z1,z2,z3,_,rfl,hq1⟩:=zAQ h;obtain⟨_,_,rfl,hq2⟩:=zAF hq1;obtain⟨_,z4,rfl,hq3⟩:=zDi hq2;obtain⟨_,_,rfl,hq4⟩:=zAF hq3;obtain⟨rfl,hq5⟩:=zAm hq4;replace h:=hq5;simp only[x9,qj] at h;obtain⟨⟨⟨⟨⟨rfl,rfl⟩,h2⟩,h3⟩,h4⟩,h5⟩:=h;obtain⟨g1,g2⟩:=zA8 o h2;obtain⟨g3,g4⟩:=zA8 o h3;exact zA3 (zS2 g1 g2 g3 g4 ((iha o hu).e _ h5).1 (zAC h4)) λ_=>rfl
 | chn op op' a b c iha ihb ihc =>
  refine Good.of (λe h=>?_) (λ_=>rfl) (λ_=>rfl) (λ_=>rfl) λ_=>rfl
  obtain⟨_,z1,z2,_,rfl,hq1⟩:=zDh h;obtain⟨_,_,rfl,hq2⟩:=zDi hq1;obtain⟨_,_,rfl,hq3⟩:=zDi hq2;replace h:=hq3;simp only[x9,cmB,qj] at h;obtain⟨⟨⟨⟨⟨⟨rfl,rfl⟩,h1⟩,h2⟩,h3⟩,h4⟩,h5⟩:=h;have k:∀ {op:CmpOp},chB op=true->∃ r,OpR X (compareOp op) r/\OpD X.K r (cmpD op):=λ{op} q=>by
   cases op with
   | Lt=>exact⟨_,zRv,zBP (zBs rfl)⟩
   | LtE=>exact⟨_,zRw,zBP (zBs rfl)⟩
   | Gt=>exact⟨_,zRy,zBP (zBs rfl)⟩
   | GtE=>exact⟨_,zR0,zBP (zBs rfl)⟩
   | _=>exact absurd q (by decide)
  obtain⟨r,a1,a2⟩:=k h1;obtain⟨r',b1,b2⟩:=k h2;exact zM6 a1 b1 a2 b2 h2 ((iha o hu).e _ h3).1 ((ihb o hu).e _ h4).1 ((ihc o hu).e _ h5).1
 | callv i a iha =>
  refine Good.of (λe h=>?_) (λ_=>rfl) (λ_=>rfl) (λ_=>rfl) λ_=>rfl
  obtain⟨z1,z2,z3,_,rfl,hq1⟩:=zAQ h;obtain⟨_,_,rfl,hq2⟩:=zAF hq1;obtain⟨_,rfl,hq3⟩:=zA5 hq2;obtain⟨rfl,hq4⟩:=zAm hq3;replace h:=hq4;simp only[x9,qj] at h;obtain⟨⟨⟨⟨h1,h2⟩,h3⟩,h4⟩,h5⟩:=h;obtain⟨d1,d2⟩:=zB3 h3;exact zA3 (zM7 o.g.lm o.g.fn o.room h1 (zFE h2) d1 d2 ((iha o hu).e _ h5).1 (zAC h4) o.own) λ_=>rfl
 | fld a f iha =>
  refine Good.of (λe h=>?_) (λ_=>rfl) (λ_=>rfl) (λ_=>rfl) λ_=>rfl
  obtain⟨_,_,_,rfl,hq1⟩:=zAl h;replace h:=hq1;simp only[x9,qj] at h;obtain⟨⟨rfl,h2⟩,h3⟩:=h;exact zA3 (zS3 ((iha o hu).e _ h3).1 (zIf h2) λc m C q=>o.g.ob _ m C q) λ_=>rfl
 | iso y a iha =>
  refine Good.of (λe h=>?_) (λ_=>rfl) (λ_=>rfl) (λ_=>rfl) λ_=>rfl
  obtain⟨z1,z2,z3,_,rfl,hq1⟩:=zAQ h;obtain⟨_,_,rfl,hq2⟩:=zAF hq1;obtain⟨_,z4,rfl,hq3⟩:=zDi hq2;obtain⟨_,_,rfl,hq4⟩:=zAF hq3;obtain⟨rfl,hq5⟩:=zAm hq4;replace h:=hq5;simp only[x9,qj] at h;obtain⟨⟨⟨⟨⟨⟨rfl,hz⟩,h2⟩,h3⟩,h4⟩,h5⟩,h6⟩:=h;have hz:=hz.symm;subst hz;obtain⟨g1,g2⟩:=zA8 o h2;by_cases hy:∃ c b,oiOf J.ob y c=some b
  .obtain ⟨c,b,hb⟩:=hy;obtain⟨Y,hY,_⟩:=o.g.ob _ (zOG hb);exact zA3 (zS1 g1 g2 (zJp (zDk h3) hY (v:=.ref Y) rfl (zB3 h4).1) (λu' r=>r) (λc b e C q=>by
    obtain⟨Y',hY',k⟩:=o.g.ob _ (zOG e);have hY2:X.mg y=some (.ref Y'):=hY';rw[show X.mg y=some (.ref Y) from hY] at hY2;cases hY2;exact k C q) ((iha o hu).e _ h6).1 (zAC h5)) λ_=>rfl
  .exact zQI λG=>by
    show one _ (isoF _) G=none;unfold one;cases evE J a G with
    | none=>rfl
    | some r =>
     show isoF _ r.1=none;unfold isoF;split
     .rename_i c _ _ _;cases q:oiOf J.ob y c with
      | none=>rfl
      | some b=>exact absurd ⟨_,_,q⟩ hy
     .rfl
 | lrev a iha =>
  refine Good.of (λe h=>?_) (λ_=>rfl) (λ_=>rfl) (λ_=>rfl) λ_=>rfl
  obtain⟨z1,z2,z3,_,rfl,hq1⟩:=zAQ h;obtain⟨_,_,rfl,hq2⟩:=zAF hq1;obtain⟨z4,rfl,hq3⟩:=zA5 hq2;obtain⟨z5,z6,z7,_,rfl,hq4⟩:=zAQ hq3;obtain⟨_,_,rfl,hq5⟩:=zAF hq4;obtain⟨_,rfl,hq6⟩:=zA5 hq5;obtain⟨rfl,hq7⟩:=zAm hq6;obtain⟨rfl,hq8⟩:=zAm hq7;replace h:=hq8;simp only[x9,qj] at h;obtain⟨⟨⟨⟨⟨rfl,rfl⟩,h2⟩,h3⟩,h4⟩,h5⟩:=h;obtain⟨g1,g2⟩:=zA8 o h2;obtain⟨g3,g4⟩:=zA8 o h3;exact zA3 (zIu o.calm g1 g2 g3 g4 ((iha o hu).e _ h5).1 (zAC h4)) λ_=>rfl
 | tupl a iha =>
  refine Good.of (λe h=>?_) (λ_=>rfl) (λ_=>rfl) (λ_=>rfl) λ_=>rfl
  obtain⟨z1,z2,z3,_,rfl,hq1⟩:=zAQ h;obtain⟨_,_,rfl,hq2⟩:=zAF hq1;obtain⟨_,rfl,hq3⟩:=zA5 hq2;obtain⟨rfl,hq4⟩:=zAm hq3;replace h:=hq4;simp only[x9,qj] at h;obtain⟨⟨⟨rfl,h2⟩,h3⟩,h4⟩:=h;obtain⟨g1,g2⟩:=zA8 o h2;exact zA3 (zSu zFo zJw g1 g2 zNg ((iha o hu).e _ h4).1 (zAC h3) (by decide) (by decide)) λ_=>rfl
 | comp1 n ms x src c el ihs ihc ihe =>
  refine Good.of (λe h=>?_) (λ_=>rfl) (λ_=>rfl) (λ_=>rfl) λ_=>rfl
  obtain⟨tg,iter,elt,ifs,scope,pos,rfl,q⟩:=zIG o (ihs o hu) (λo'=>ihc o' (zFF o')) (λo'=>ihe o' (zFF o')) h;exact zA3 (zKu o.calm q.hi q.hs q.cs q.hm q.hg q.hc q.he) λ_=>rfl
 | lzip a b iha ihb =>
  refine Good.of (λe h=>?_) (λ_=>rfl) (λ_=>rfl) (λ_=>rfl) λ_=>rfl
  obtain⟨z1,z2,z3,_,rfl,hq1⟩:=zAQ h;obtain⟨_,_,rfl,hq2⟩:=zAF hq1;obtain⟨z4,rfl,hq3⟩:=zA5 hq2;obtain⟨z5,z6,z7,_,rfl,hq4⟩:=zAQ hq3;obtain⟨_,_,rfl,hq5⟩:=zAF hq4;obtain⟨_,_,rfl,hq6⟩:=zDi hq5;obtain⟨rfl,hq7⟩:=zAm hq6;obtain⟨rfl,hq8⟩:=zAm hq7;replace h:=hq8;simp only[x9,qj] at h;obtain⟨⟨⟨⟨⟨⟨⟨rfl,rfl⟩,h2⟩,h3⟩,h4⟩,h5⟩,h6⟩,h7⟩:=h;obtain⟨g1,g2⟩:=zA8 o h2;obtain⟨g3,g4⟩:=zA8 o h3;exact zA3 (zIt o.calm g1 g2 g3 g4 ((iha o hu).e _ h6).1 ((ihb o hu).e _ h7).1 (zAC h4) (zAC h5)) λ_=>rfl
 | it a iha =>
  refine Good.ofI (λit h=>?_) (λ_=>rfl) (λ_=>rfl) (λ_=>rfl) λ_=>rfl
  replace h:(zKB it&&cE a X.env.scope X.N bs it)=true:=h;simp only[x9] at h;exact⟨λtg=>zSr ((iha o hu).e _ h.2).1,zEo h.1⟩
 | r1 a iha =>
  refine Good.ofI (λit h=>?_) (λ_=>rfl) (λ_=>rfl) (λ_=>rfl) λ_=>rfl
  obtain⟨z1,z2,z3,_,rfl,hq1⟩:=zAQ h;obtain⟨_,_,rfl,hq2⟩:=zAF hq1;obtain⟨_,rfl,hq3⟩:=zA5 hq2;obtain⟨rfl,hq4⟩:=zAm hq3;replace h:=hq4;simp only[x9,qj] at h;obtain⟨⟨⟨rfl,h2⟩,h3⟩,h4⟩:=h;obtain⟨g1,g2⟩:=zA8 o h2;exact⟨λtg=>zKr g1 g2 ((iha o hu).e _ h4).1 (zAC h3),λ_=>rfl⟩
 | r2 a b iha ihb =>
  refine Good.ofI (λit h=>?_) (λ_=>rfl) (λ_=>rfl) (λ_=>rfl) λ_=>rfl
  obtain⟨z1,z2,z3,_,rfl,hq1⟩:=zAQ h;obtain⟨_,_,rfl,hq2⟩:=zAF hq1;obtain⟨_,_,rfl,hq3⟩:=zDi hq2;obtain⟨rfl,hq4⟩:=zAm hq3;replace h:=hq4;simp only[x9,qj] at h;obtain⟨⟨⟨⟨⟨rfl,h2⟩,h3⟩,h4⟩,h5⟩,h6⟩:=h;obtain⟨g1,g2⟩:=zA8 o h2;exact⟨λtg=>zKq g1 g2 ((iha o hu).e _ h5).1 ((ihb o hu).e _ h6).1 (zAC h3) (zAC h4),λ_=>rfl⟩
 | r3 a b c iha ihb ihc =>
  refine Good.ofI (λit h=>?_) (λ_=>rfl) (λ_=>rfl) (λ_=>rfl) λ_=>rfl
  obtain⟨z1,z2,z3,_,rfl,hq1⟩:=zAQ h;obtain⟨_,_,rfl,hq2⟩:=zAF hq1;obtain⟨_,_,_,rfl,hq3⟩:=zR3 hq2;obtain⟨rfl,hq4⟩:=zAm hq3;replace h:=hq4;simp only[x9,qj] at h;obtain⟨⟨⟨⟨⟨⟨⟨rfl,h2⟩,h3⟩,h4⟩,h4'⟩,h5⟩,h6⟩,h7⟩:=h;obtain⟨g1,g2⟩:=zA8 o h2;exact⟨λtg=>zKp g1 g2 ((iha o hu).e _ h5).1 ((ihb o hu).e _ h6).1 ((ihc o hu).e _ h7).1 (zAC h3) (zAC h4) (zAC h4'),λ_=>rfl⟩
 | nil =>
  refine⟨λe h=>(zzf h),λes h=>?_,λoe h=>?_,λit h=>(zzf h),λifs h=>?_⟩
  .cases es with
   | nil=>exact⟨⟨zS9,zQS⟩,λz=>absurd rfl z⟩
   | cons x xs=>exact(zzf h)
  .cases oe with
   | none=>exact zQD
   | some x=>exact(zzf h)
  .cases ifs with
   | nil=>exact zQN
   | cons x xs=>exact(zzf h)
 | cons e es ihe ihs =>
  refine⟨λe h=>(zzf h),λl h=>?_,λoe h=>?_,λit h=>(zzf h),λifs h=>?_⟩
  .cases l with
   | nil=>exact(zzf h)
   | cons x xs =>
    replace h:(zAb x&&cE e X.env.scope X.N bs x&&cEs es X.env.scope X.N bs xs)=true:=h;simp only[x9] at h;obtain⟨⟨h1,h2⟩,h3⟩:=h;obtain⟨q1,q2⟩:=(ihe o hu).e _ h2;refine⟨⟨zQT q1 ((ihs o hu).es _ h3).1.1 (zAC h1),zNA q1 ((ihs o hu).es _ h3).1.2 (zAC h1)⟩,λ_ pos=>?_⟩;cases xs with
    | nil =>
     have hn:es=.nil:=by cases es<;>first | rfl | exact(zzf h3)
     subst hn;exact⟨⟨zOS q1,zIn q2⟩,zOS q1,zKi q2⟩
    | cons y ys =>
     have hc:∃ a b,es=.cons a b:=by cases es<;>first | exact⟨_,_,rfl⟩ | exact(zzf h3)
     obtain⟨a,b,rfl⟩:=hc;obtain⟨⟨r1,r2⟩,r3,r4⟩:=((ihs o hu).es _ h3).2 (by simp) pos;exact⟨⟨zS7 q1 r1,zSb q2 r2⟩,zUT q1 r3,zUN q2 r4⟩
  .cases oe with
   | none=>exact(zzf h)
   | some x =>
    replace h:cE e X.env.scope X.N bs x=true:=h;exact zQC ((ihe o hu).e _ h).1
  .cases ifs with
   | nil=>exact(zzf h)
   | cons x xs =>
    cases xs with
    | nil=>exact zQM ((ihe o hu).e _ h).2
    | cons _ _=>exact(zzf h)
theorem zBv (h:varB sc N i x=true):N[i]?=some x/\Loc sc x/\Vis sc x/\(x==("__debug__":Str))=false/\(x==("__classdict__":Str))=false:=by
 unfold varB at h;simp only[x9,qj] at h;obtain⟨⟨h1,h2⟩,h3⟩:=h;exact⟨h1,zEI h2,zMl h2,zB3 h3⟩
theorem zRM (o:XOk X k J bs)(fnl:∀ x,X.fn x=true)(hxe:X.xe=λ_ _=>False)(hst:X.stack=X.env::X.outer)(hfr:X.env.frame=some X.env.locals)(a:S) :
  ((∀ st,cS X.env.scope X.N bs a st=true->GS X st (evS J a))/\∀ sts,cSs X.env.scope X.N bs a sts=true->GSs X sts (evSs J a)) /\
  (∀ st,cS X.env.scope X.N bs a st=true->GXs X st (xvS J a))/\∀ sts,cSs X.env.scope X.N bs a sts=true->GXss X sts (xvSs J a):=by
 induction a with
 | nil =>
  refine⟨⟨λst h=>(zzf h),λsts h=>?_⟩,λst h=>zAS,λsts h=>zAS⟩;cases sts with
  | nil=>exact zP6
  | cons x xs=>exact(zzf h)
 | cons a b iha ihb =>
  refine⟨⟨λst h=>(zzf h),λsts h=>?_⟩,λst h=>zAS,λsts h=>zAS⟩
  .cases sts with
   | nil=>exact(zzf h)
   | cons x xs =>
    replace h:(cS X.env.scope X.N bs a x&&cSs X.env.scope X.N bs b xs)=true:=h;simp only[x9] at h;exact zM0 (iha.1.1 _ h.1) (ihb.1.2 _ h.2)
 | frz i r ih =>
  refine⟨⟨λst h=>(zzf h),λsts h=>?_⟩,λst h=>zAS,λsts h=>zAS⟩
  .replace h:cSs X.env.scope X.N bs r sts=true:=h;exact zP5 zTC (ih.1.2 _ h)
 | set i e =>
  refine⟨⟨λst h=>?_,λsts h=>(zzf h)⟩,λst h=>zAS,λsts h=>zAS⟩
  .obtain ⟨z1,_,_,rfl,hq1⟩:=zBk h;obtain⟨z2,rfl,hq2⟩:=zA5 hq1;obtain⟨_,_,rfl,hq3⟩:=zAF hq2;replace h:=hq3;simp only[x9,qj] at h;obtain⟨⟨h2,h3⟩,h4⟩:=h;obtain⟨v1,v2,_⟩:=zBv h2;exact zOR o.nd v1 v2 ((zCo o e).e _ h4).1 (zC0 h3) (.inl (fnl _))
 | setC i e =>
  refine⟨⟨λst h=>?_,λsts h=>(zzf h)⟩,λst h=>zAS,λsts h=>zAS⟩;obtain⟨z1,_,_,rfl,hq1⟩:=zBk h;obtain⟨z2,rfl,hq2⟩:=zA5 hq1;obtain⟨_,_,rfl,hq3⟩:=zAF hq2;replace h:=hq3;simp only[x9,qj] at h;obtain⟨⟨h0,h2⟩,h4⟩:=h;obtain⟨v1,v2,_⟩:=zBv h2;cases e with
  | comp1 n ms x src c el =>
   obtain⟨tg,iter,elt,ifs,scope,pos,rfl,q⟩:=zIG o (zCo o src) (λo'=>zCo o' c) (λo'=>zCo o' el) h4;exact zQB o.calm q.hi q.hs q.cs q.hm q.hg q.hc q.he o.nd v1 v2 (.inl (fnl _))
  | _=>cases h0
 | app i e =>
  refine⟨⟨λst h=>?_,λsts h=>(zzf h)⟩,λst h=>zAS,λsts h=>zAS⟩;obtain⟨z1,_,rfl,hq1⟩:=zCh h;obtain⟨z2,z3,z4,_,rfl,hq2⟩:=zAQ hq1;obtain⟨z5,_,_,rfl,hq3⟩:=zAl hq2;obtain⟨_,_,rfl,hq4⟩:=zAF hq3;obtain⟨_,rfl,hq5⟩:=zA5 hq4;obtain⟨rfl,hq6⟩:=zAm hq5;replace h:=hq6;simp only[x9,qj] at h;obtain⟨⟨⟨⟨rfl,h2⟩,h3⟩,h4⟩,h5⟩:=h;obtain⟨v1,v2,v3,v4,v5⟩:=zBv h2;exact zSl v1 v3 v4 v5 ((zCo o e).e _ h5).1 (zAC h4) rfl h3
 | aug op i e =>
  refine⟨⟨λst h=>?_,λsts h=>(zzf h)⟩,λst h=>zAS,λsts h=>zAS⟩;obtain⟨z1,_,_,_,rfl,hq1⟩:=zEg h;obtain⟨_,_,rfl,hq2⟩:=zAF hq1;replace h:=hq2;simp only[x9,qj,opB] at h;obtain⟨⟨⟨rfl,h2⟩,h3⟩,h4⟩:=h;obtain⟨v1,v2,_⟩:=zBv h2;exact zSk o.nd v1 v2 ((zCo o e).e _ h4).1 (.inl (fnl _))
 | ext i e =>
  refine⟨⟨λst h=>?_,λsts h=>(zzf h)⟩,λst h=>zAS,λsts h=>zAS⟩;obtain⟨z1,_,rfl,hq1⟩:=zCh h;obtain⟨z2,z3,z4,_,rfl,hq2⟩:=zAQ hq1;obtain⟨z5,_,_,rfl,hq3⟩:=zAl hq2;obtain⟨_,_,rfl,hq4⟩:=zAF hq3;obtain⟨_,rfl,hq5⟩:=zA5 hq4;obtain⟨rfl,hq6⟩:=zAm hq5;replace h:=hq6;simp only[x9,qj] at h;obtain⟨⟨⟨⟨rfl,h2⟩,h3⟩,h4⟩,h5⟩:=h;obtain⟨v1,v2,v3,v4,v5⟩:=zBv h2;exact zSj v1 v3 v4 v5 ((zCo o e).e _ h5).1 (zAC h4) rfl h3
 | ife c a b iha ihb =>
  refine⟨⟨λst h=>?_,λsts h=>(zzf h)⟩,λst h=>zAS,λsts h=>zAS⟩
  .obtain ⟨_,_,_,_,rfl,hq1⟩:=zJ3 h;replace h:=hq1;simp only[x9] at h;obtain⟨⟨h1,h2⟩,h3⟩:=h;exact zUO ((zCo o c).e _ h1).2 (iha.1.2 _ h2) (ihb.1.2 _ h3)
 | whl c b ihb =>
  refine⟨⟨λst h=>?_,λsts h=>(zzf h)⟩,λst h=>zAS,λsts h=>zAS⟩;obtain⟨_,_,z1,_,rfl,hq1⟩:=zIZ h;obtain⟨rfl,hq2⟩:=zAm hq1;replace h:=hq2;simp only[x9] at h;exact zM2 o.own ((zCo o c).e _ h.1).2 (ihb.1.2 _ h.2)
 | for1 i it b ihb =>
  refine⟨⟨λst h=>?_,λsts h=>(zzf h)⟩,λst h=>zAS,λsts h=>zAS⟩;obtain⟨z1,_,_,z2,_,rfl,hq1⟩:=zHp h;obtain⟨_,_,rfl,hq2⟩:=zAF hq1;obtain⟨rfl,hq3⟩:=zAm hq2;replace h:=hq3;simp only[x9,qj] at h;obtain⟨⟨h2,h3⟩,h4⟩:=h;obtain⟨v1,v2,_⟩:=zBv h2;obtain⟨s1,s2⟩:=(zCo o it).i _ h3;exact zSi o.own o.calm (s1 _) (zKs o.nd v1 v2 (.inl (fnl _))) (ihb.1.2 _ h4) s2
 | ret e =>
  refine⟨⟨λst h=>?_,λsts h=>(zzf h)⟩,λst h=>zAS,λsts h=>zAS⟩
  .obtain ⟨z1,_,rfl,hq1⟩:=zCy h;obtain⟨_,rfl,hq2⟩:=zEB hq1;replace h:=hq2;exact zSh ((zCo o e).e _ h).1
 | retOwn i =>
  refine⟨⟨λst h=>?_,λsts h=>(zzf h)⟩,λst h=>zAS,λsts h=>zAS⟩;obtain⟨z1,_,rfl,hq1⟩:=zCy h;obtain⟨z2,rfl,hq2⟩:=zEB hq1;obtain⟨_,_,rfl,hq3⟩:=zAF hq2;replace h:=hq3;obtain⟨v1,v2,v3,v4,v5⟩:=zBv h;exact zKm v1 v3 v4 v5
 | never=>exact⟨⟨λst _=>zHy,λsts h=>(zzf h)⟩,λst h=>zAS,λsts h=>zAS⟩
 | rse c m =>
  exact⟨⟨λst _=>zHy,λsts h=>(zzf h)⟩,λst h=>zAS,λsts h=>zAS⟩
end
theorem zOc {K:W.Frag}{st:Stmt}(F:Fun K x qual st f fd)(sc:zAi N ps (zAA st))
  (ck:cSs (zAA st) N bs b (zAK st)=true) (g:GOk P w K mg base k J bs):FnOk P w K mg base CX0 (k+1) f fd ps (spD K (dFun ps.length N.length (evSs J b))) :=
 zTB F sc λcdv A outer s H E hr =>
  (zRM (X:=(cxOf CX0 P w K mg base N qual (zAA st) f cdv A outer s H E).nox) ⟨g,hr,rfl,sc.nd,PassesOwn.never⟩ (λ_=>rfl) rfl rfl rfl b).1.2 _ ck
noncomputable def Gm.add (J:Gm)(x:Str)(F:List D->Option R):Gm:=⟨J.fns++[(x,F)],J.cs,J.xf,J.sub,J.rs,J.lm,J.ob⟩
theorem GOk.add {K:W.Frag}{st:Stmt}(g:GOk P w K mg base k J bs)(F:Fun K x x st f fd)(sc:zAi N ps (zAA st))
  (ck:cSs (zAA st) N bs b (zAK st)=true) (m:mg x=some (.ref f)) (bi:zBU K fd ps []):GOk P w K mg base (k+1) (J.add x (dFun ps.length N.length (evSs J b))) bs:=by
 refine⟨λy G h=>?_,g.cs,g.bt,trivial,trivial,trivial,λj L F e=>(g.lm j L F e).mono (Nat.le_succ k),g.ob⟩
 .rcases mem_append.mp h with h | h
  .obtain ⟨f',fd',ps',h1,h2⟩:=g.fn y G h;exact⟨f',fd',ps',h1.mono (Nat.le_succ k),h2⟩
  .have e:(y,G)=(x,dFun ps.length N.length (evSs J b)):=by simpa using h
   cases e;exact⟨f,fd,ps,zOc F sc ck g,m,F.kp,bi⟩
theorem GOk.addN {K:W.Frag}{st:Stmt}(g:GOk P w K mg base k J bs)(F:Fun K x x st f fd)(m:mg x=some (.ref f))(bi:zBU K fd ps []) :
  GOk P w K mg base k (J.add x (λ_=>none)) bs:=by
 refine⟨λy G h=>?_,g.cs,g.bt,trivial,trivial,trivial,g.lm,g.ob⟩
 .rcases mem_append.mp h with h | h
  .exact g.fn y G h
  .have e:(y,G)=(x,λ_=>none):=by simpa using h
   cases e;exact⟨f,fd,ps,⟨λvs H Q E q=>(by obtain⟨_,_,_,_,_,q,_⟩:=q;cases q),λA outer s H args us vs Q E hr he hb hv q=>(by obtain⟨_,_,_,_,_,q,_⟩:=q;cases q)⟩,m,F.kp,bi⟩
theorem GOk.addR {K:W.Frag}{st:Stmt}(g:GOk P w K mg base k J bs)(g':GOk P w K mg base j J' bs)(hk:k<=j)(F:Fun K x x st f fd)(sc:zAi N ps (zAA st))
  (ck:cSs (zAA st) N bs b (zAK st)=true) (m:mg x=some (.ref f)) (bi:zBU K fd ps []):GOk P w K mg base (j+1) (J.add x (dFun ps.length N.length (evSs J' b))) bs:=by
 refine⟨λy G h=>?_,g.cs,g.bt,trivial,trivial,trivial,λi L F e=>(g.lm i L F e).mono (by omega),g.ob⟩
 .rcases mem_append.mp h with h | h
  .obtain ⟨f',fd',ps',h1,h2⟩:=g.fn y G h;exact⟨f',fd',ps',h1.mono (by omega),h2⟩
  .have e:(y,G)=(x,dFun ps.length N.length (evSs J' b)):=by simpa using h
   cases e;exact⟨f,fd,ps,zOc F sc ck g',m,F.kp,bi⟩
noncomputable def Gm.addL (J:Gm)(L:LamI)(F:List D->Option R):Gm:=⟨J.fns,J.cs,J.xf,J.sub,J.rs,J.lm++[(L,F)],J.ob⟩
noncomputable def lamD (n:Nat)(G:Dst->Option R):List D->Option R:=λds=>if ds.length=n+1/\noFs ds=true then G (ds.map λd=>some (d,false)) else none
theorem GOk.addL {K:W.Frag}(g:GOk P w K mg base k J bs)(S:zHX x ys L)(ey:frN L=ys)(ck:cE be L.scope (x::ys) bs L.body=true) :
  GOk P w K mg base (k+1) (J.addL L (lamD ys.length (evE J be))) bs:=by
 refine⟨λy G h=>let ⟨f,fd,ps,h1,h2⟩:=g.fn y G h;⟨f,fd,ps,h1.mono (Nat.le_succ k),h2⟩,g.cs,g.bt,trivial,trivial,trivial,λj L' F e=>?_,g.ob⟩;have e':(J.lm++[(L,lamD ys.length (evE J be))])[j]?=some (L',F):=e;by_cases q:j < J.lm.length
 .rw [getElem?_append_left q] at e';exact(g.lm j L' F e').mono (Nat.le_succ k)
 .rw [getElem?_append_right (by omega)] at e';have q2:j - J.lm.length=0:=by
   by_cases z:j - J.lm.length=0
   .exact z
   .rw [getElem?_eq_none (by simp;omega)] at e';cases e'
  rw[q2] at e';cases e';refine zPq S ey λY e1 e2 e3 e4 e5 hr hc hN hs hx=>?_
  subst e1 e2 e3 e4 e5;rw[<- hN,<- hs] at ck;exact((zCo (X:=Y) ⟨g,hr,hc,by rw[hN];exact S.nd,by rw[hx];exact PassesOwn.never⟩ be).e _ ck).1
theorem zNm (h:absV u=some v):RelV v u:=by
 unfold absV at h;split at h<;>first | (cases h;rfl) | (cases h;exact⟨_,rfl⟩) | cases h
theorem zHZ:∀ {us:List Value} {vs:List V},us.map absV=vs.map some->Vals vs us
 | [],[],_=>.nil
 | [],_::_,h=>by simp at h
 | _::_,[],h=>by simp at h
 | u::us,v::vs,h=>by
  simp only[map_cons,List.cons.injEq] at h;exact .cons (zNm h.1) (zHZ h.2)
theorem zFg {K:W.Frag}{mg:Str->Option Value}{ns:List Int}(m:mg x=some (.ref a))(l:K.lookup a=some ⟨.type "tuple",od,.seq its n,sl⟩)
  (h:its.toList.map absV=(ns.map V.int).map some) (hl:ns.length<=1000:=by decide):∃ u v,mg x=some u/\RelV v u/\Den K (λ_=>none) (.tup (ns.map D.int)) v:=by
 refine⟨_,.ref a,m,rfl,?_⟩;rw[Den];refine⟨a,ns.map V.int,rfl,.inr ⟨_,its,n,l,rfl,rfl,?_,zHZ h⟩,DenL.ints ns⟩;have e:=congrArg List.length h;rw[qy,qy,qy] at e;have e2:its.size=ns.length:=e;rw[e2];exact Nat.le_of_lt (zJS hl)
end DL
end
section
namespace DL
open PySem L2
noncomputable def S.tail:Nat->S->S
 | 0,s=>s
 | n+1,.cons _ b=>S.tail n b
 | n+1,.frz _ b=>S.tail n b
 | _+1,s=>s
theorem zHG :evE J (.var i)=varD i:=rfl
theorem zNR :evE J (.glob n x)=zGP J n x:=rfl
theorem zQp :evE J (.neg a)=negD (evE J a):=rfl
theorem zQo :evE J (.not a)=notD (evE J a):=rfl
theorem zHH :evAnd J (.cons e (.cons a b))=andD (evE J e) (evAnd J (.cons a b)):=rfl
theorem zIy :evOr J (.cons e (.cons a b))=orD (evE J e) (evOr J (.cons a b)):=rfl
theorem zQr :evE J (.ite c a b)=iteD (evE J c) (evE J a) (evE J b):=rfl
theorem zLH :evEs J (.cons e es)=zNb (evE J e) (evEs J es):=rfl
theorem zQn :evE J (.tup es)=tupD (evEs J es):=rfl
theorem zQq :evE J (.lst es)=lstD (evEs J es):=rfl
theorem zNS :evE J (.call n f es)=fnD J n f (evEs J es):=rfl
theorem zTP :evE J (.sl a lo hi)=slD (evE J a) (evO J lo) (evO J hi):=rfl
theorem zNM :evO J (.cons e u1)=zJv (evE J e):=rfl
theorem zLA :evSs J (.cons a b)=seqD (evS J a) (evSs J b):=rfl
theorem zH8 :evSs J (.frz i r)=seqD (frzD i) (evSs J r):=rfl
theorem zQf :evS J (.set i e)=setD i (evE J e):=rfl
theorem zNL :evS J (.setC i e)=setD i (evE J e):=rfl
theorem zQj :evS J (.app i e)=appD i (evE J e):=rfl
theorem zQh :evS J (.ife c a b)=ifD (asB (evE J c)) (evSs J a) (evSs J b):=rfl
theorem zQg :evS J (.ret e)=retD (evE J e):=rfl
theorem zIx :evS J (.retOwn i)=zD7 i:=rfl
theorem zTO :evI J (.it e)=zGN (evE J e):=rfl
theorem zTN :evI J (.r1 a)=zJc (evE J a):=rfl
theorem zTM :evI J (.r3 a b c)=zJb (evE J a) (evE J b) (evE J c):=rfl
theorem zLI :evE J (.comp1 n ms u2 src c e)=zI0 ms 1 (evI J src) (tg1 n) (evC J c) (evE J e):=rfl
theorem zQs :evE J (.chn op op' a b c)=chD (cmpD op) (cmpD op') (evE J a) (evE J b) (evE J c):=rfl
theorem zQi :evS J (.ext i e)=extD i (evE J e):=rfl
theorem zNQ :evE J (.lrev a)=one (evE J a) revD:=rfl
theorem zDb :evC J .nil=λ_=>some true:=rfl
def EvP {U:Type}(o:Option U)(Q:U->Prop):Prop:=∃ r,o=some r/\Q r
section
variable {U M:Type}{J:Gm}{G:Dst}
theorem EvP.bind {o:Option U}{f:U->Option M}{Q:M->Prop}(h:EvP o λa=>EvP (f a) Q):EvP (o.bind f) Q:=by
 obtain⟨a,e,b,e2,q⟩:=h;exact⟨b,by rw[e];exact e2,q⟩
theorem EvP.eq {o:Option U}{r:U}(h:EvP o λx=>x=r):o=some r:=by
 obtain⟨x,e,rfl⟩:=h;exact e
theorem EvP.imp {o:Option U}{Q Q':U->Prop}(h:EvP o Q)(i:∀ x,Q x->Q' x):EvP o Q':=by
 obtain⟨x,e,q⟩:=h;exact⟨x,e,i x q⟩
def CB (b:Bool)(A B:Prop):Prop:=if b=true then A else B
theorem zBE [Decidable p](h1:p->A)(h2:¬ p->B):CB (decide p) A B:=by
 unfold CB;by_cases h:p
 .rw [if_pos (decide_eq_true h)];exact h1 h
 .rw [if_neg (by simpa using h)];exact h2 h
theorem cb_t (h:A):CB true A B:=h
theorem cb_f (h:B):CB false A B:=by unfold CB;rw[if_neg qY];exact h
theorem zCc [Decidable p](hp:p)(h:A):CB (decide p) A B:=zBE (λ_=>h) λn=>absurd hp n
theorem zCQ [Decidable p](hp:¬ p)(h:B):CB (decide p) A B:=zBE (λn=>absurd n hp) λ_=>h
theorem zLf (h:CB b B A):CB (!b) A B:=by
 cases b with
 | true=>exact cb_f h
 | false=>exact cb_t (by unfold CB at h;rw[if_neg qY] at h;exact h)
variable {Q:R->Prop}
theorem zAH (e:G[i]?=some (some (d,false)))(h:Q (d,.cl)):EvP (evE J (.var i) G) Q:=by
 rw[zHG];unfold varD;rw[e];exact⟨_,rfl,h⟩
theorem zH4 (e:G[i]?=some (some (.lst d,o)))(h:Q (.lst d,if o then .dt else .cl)):EvP (evE J (.var i) G) Q:=by
 rw[zHG];unfold varD;rw[e];cases o<;>exact⟨_,rfl,h⟩
theorem zUb (e:G[i]?=some (some (.lst d,true)))(h:Q (.lst d,.dt)):EvP (evE J (.var i) G) Q:=by
 rw[zHG];unfold varD;rw[e];exact⟨_,rfl,h⟩
theorem zNF (e:G[i]?=some (some (.lam j L dl,false)))(el:J.lm[j]?=some (L,F))(h:EvP (evE J a G) λx=>x.2≠.dt/\EvP (F (x.1::dl)) λr=>r.2≠.dt/\Q r):EvP (evE J (.callv i a) G) Q:=by
 obtain⟨x,ex,nx,r,er,nr,q⟩:=h;refine⟨r,?_,q⟩;show zEb J.lm J.fns i (evE J a) G=_;unfold zEb;rw[e];show ((evE J a G).bind λx=>_)=_;rw[ex];show (if x.2=.dt then none else _)=_;rw[if_neg nx];have e3:lamF J.lm j L (x.1::dl)=some r:=by unfold lamF;rw[el];exact(if_pos rfl).trans er
 rw[e3];show (if r.2=.dt then none else some r)=_;rw[if_neg nr]
theorem zC3 (e:J.cs[n]?=some (x,d))(h:Q (d,.cl)):EvP (evE J (.glob n x) G) Q:=by
 rw[zNR];unfold zGP;rw[e];exact⟨_,if_pos rfl,h⟩
theorem zAN (h:Q (.int i,.cl)):EvP (evE J (.int i) G) Q:=⟨_,rfl,h⟩
theorem zNG (h:Q (.bl b,.cl)):EvP (evE J (.bl b) G) Q:=⟨_,rfl,h⟩
theorem zK5 (h:Q (.non,.cl)):EvP (evE J .non G) Q:=⟨_,rfl,h⟩
theorem zGU (h:EvP (f G) λx=>EvP (g G) λy=>EvP (o x.1 y.1) Q):EvP (two f g o G) Q:=EvP.bind (h.imp λ_ q=>EvP.bind q)
theorem zAc (h:EvP (evE J a G) λx=>EvP (evE J b G) λy=>EvP (binD op x.1 y.1) Q):EvP (evE J (.bin op a b) G) Q:=zGU h
theorem zBq (h:EvP (evE J a G) λx=>EvP (evE J b G) λy=>EvP (cmpD op x.1 y.1) Q):EvP (evE J (.cmp op a b) G) Q:=zGU h
theorem zBY (h:EvP (evE J a G) λx=>EvP (evE J b G) λy=>EvP (ixD x.1 y.1) Q):EvP (evE J (.ix a b) G) Q:=zGU h
theorem zTH (h:EvP (evE J a G) λx=>EvP (evE J b G) λy=>EvP (maxD x.1 y.1) Q):EvP (evE J (.max a b) G) Q:=zGU h
theorem zK6 (h:EvP (evE J a G) λx=>EvP (evE J b G) λy=>EvP (zipD x.1 y.1) Q):EvP (evE J (.lzip a b) G) Q:=zGU h
theorem zTo (l:xs.length=ys.length/\xs.length<=10000)(h:Q (.lst (zipT xs ys),.fr)):EvP (zipD (.lst xs) (.lst ys)) Q:=⟨_,if_pos l,h⟩
theorem zEw (h:EvP (f G) λx=>EvP (o x.1) Q):EvP (one f o G) Q:=EvP.bind h
theorem zB5 (h:EvP (evE J a G) λx=>EvP (lenD x.1) Q):EvP (evE J (.len a) G) Q:=zEw h
theorem zTK (h:EvP (evE J a G) λx=>EvP (absD x.1) Q):EvP (evE J (.abs a) G) Q:=zEw h
theorem zFk (h:EvP (evE J a G) λx=>EvP (zIl x.1) Q):EvP (evE J (.list a) G) Q:=zEw h
theorem zK7 (h:EvP (evE J a G) λx=>EvP (isiF t x.1) Q):EvP (evE J (.isi t a) G) Q:=zEw h
theorem zUI (h:Q (.bl true,.cl)):EvP (isiF .int (.int i)) Q:=⟨_,rfl,h⟩
theorem zUJ (h:Q (.bl false,.cl)):EvP (isiF .bool (.int i)) Q:=⟨_,rfl,h⟩
theorem zUG (h:Q (.bl true,.cl)):EvP (isiF .tuple (.tup ds)) Q:=⟨_,rfl,h⟩
theorem zPt (h:Q (.bl true,.cl)):EvP (isiF .list (.lst ds)) Q:=⟨_,rfl,h⟩
theorem zTG (h:EvP (evE J a G) λx=>∃ i,x.1=.int i/\Q (.int (-i),.cl)):EvP (evE J (.neg a) G) Q:=by
 obtain⟨⟨d,k⟩,e,i,ei,q⟩:=h;cases ei;rw[zQp];unfold negD;rw[e];exact⟨_,rfl,q⟩
theorem zEc {f:Dst->Option R}{b:Bool}{k:Kd}(e:f G=some (.bl b,k)):asB f G=some b:=by unfold asB;rw[e]
theorem zEx (h:EvP (evE J a G) λx=>∃ b,x.1=.bl b/\Q (.bl (!b),.cl)):EvP (evE J (.not a) G) Q:=by
 obtain⟨⟨d,k⟩,e,b,eb,q⟩:=h;cases eb;rw[zQo];unfold notD;rw[zEc e];exact⟨_,rfl,q⟩
theorem zQc (h:EvP (evAnd J es G) Q):EvP (evE J (.andl es) G) Q:=h
theorem zH5 (h:EvP (evOr J es G) Q):EvP (evE J (.orl es) G) Q:=h
theorem zHF (h:EvP (evE J e G) Q):EvP (evAnd J (.cons e .nil) G) Q:=h
theorem zH7 (h:EvP (evE J e G) Q):EvP (evOr J (.cons e .nil) G) Q:=h
theorem zQd (h:EvP (evE J e G) λx=>∃ k,x.1=.bl k/\CB k (EvP (evAnd J (.cons a b) G) Q) (Q (.bl false,.cl))):EvP (evAnd J (.cons e (.cons a b)) G) Q:=by
 obtain⟨⟨d,kd⟩,e,k,ek,q⟩:=h;cases ek;rw[zHH];unfold andD;rw[zEc e];cases k with
 | true=>exact q
 | false=>exact⟨_,rfl,by unfold CB at q;rw[if_neg qY] at q;exact q⟩
theorem zH6 (h:EvP (evE J e G) λx=>∃ k,x.1=.bl k/\CB k (Q (.bl true,.cl)) (EvP (evOr J (.cons a b) G) Q)):EvP (evOr J (.cons e (.cons a b)) G) Q:=by
 obtain⟨⟨d,kd⟩,e,k,ek,q⟩:=h;cases ek;rw[zIy];unfold orD;rw[zEc e];cases k with
 | true=>exact⟨_,rfl,q⟩
 | false =>
  unfold CB at q;rw[if_neg qY] at q;obtain⟨z,e2,q⟩:=q;exact⟨z,e2,q⟩
theorem zOX (h:EvP (evE J c G) λx=>∃ k,x.1=.bl k/\CB k (EvP (evE J a G) Q) (EvP (evE J b G) Q)):EvP (evE J (.ite c a b) G) Q:=by
 obtain⟨⟨d,kd⟩,e,k,ek,q⟩:=h;cases ek;rw[zQr];unfold iteD;rw[zEc e];cases k with
 | true=>exact q
 | false =>
  unfold CB at q;rw[if_neg qY] at q;exact q
theorem zAe {Q:List D->Prop}(h:Q []):EvP (evEs J .nil G) Q:=⟨_,rfl,h⟩
theorem zAD {Q:List D->Prop}(h:EvP (evE J e G) λx=>x.2≠.dt/\EvP (evEs J es G) λxs=>Q (x.1::xs)):EvP (evEs J (.cons e es) G) Q:=by
 rw[zLH];obtain⟨x,e,nd,xs,e2,q⟩:=h;exact⟨_,by unfold zNb;rw[e];show (if x.2=.dt then none else _)=_;rw[if_neg nd,e2];rfl,q⟩
theorem zDL (h:EvP (evEs J es G) λxs=>xs.length<=10000/\Q (.tup xs,.cl)):EvP (evE J (.tup es) G) Q:=by
 rw[zQn];obtain⟨xs,e,l,q⟩:=h;exact⟨_,by unfold tupD;rw[e];exact if_pos l,q⟩
theorem zOW (h:EvP (evEs J es G) λxs=>xs.length<=10000/\Q (.lst xs,.fr)):EvP (evE J (.lst es) G) Q:=by
 rw[zQq];obtain⟨xs,e,l,q⟩:=h;exact⟨_,by unfold lstD;rw[e];exact if_pos l,q⟩
theorem zAM (e:J.fns[n]?=some (f,F))(h:EvP (evEs J es G) λds=>EvP (F ds) λr=>r.2≠.dt/\Q r):EvP (evE J (.call n f es) G) Q:=by
 rw[zNS];unfold fnD;rw[e];obtain⟨ds,e1,r,e2,nd,q⟩:=h;refine⟨r,?_,q⟩;show (if f=f then zHS F _ G else none)=some r;rw[if_pos rfl];unfold zHS;rw[e1];show (F ds).bind _=_;rw[e2];exact if_neg nd
theorem zQa (h:EvP (evE J a G) λx=>EvP (evO J lo G) λl=>EvP (evO J hi G) λu=>∃ ds,x.1=.lst ds/\Q (.lst (cutD ds l u),.fr)):EvP (evE J (.sl a lo hi) G) Q:=by
 rw[zTP];obtain⟨⟨d,k⟩,e,l,e1,u,e2,ds,ed,q⟩:=h;cases ed;exact⟨_,by unfold slD;rw[e];show (evO J lo G).bind _=_;rw[e1];show (evO J hi G).bind _=_;rw[e2];rfl,q⟩
theorem zTS {Q:Option Int->Prop}(h:Q none):EvP (evO J .nil G) Q:=⟨_,rfl,h⟩
theorem zQt {Q:Option Int->Prop}(h:EvP (evE J e G) λx=>∃ i,x.1=.int i/\Q (some i)):EvP (evO J (.cons e b) G) Q:=by
 rw[zNM];obtain⟨⟨d,k⟩,e,i,ei,q⟩:=h;cases ei;exact⟨_,by unfold zJv;rw[e],q⟩
theorem zDt (h:Q (.int (i+j),.cl)):EvP (binD .Add (.int i) (.int j)) Q:=⟨_,rfl,h⟩
theorem zNi (l:xs.length+ys.length<=10000)(h:Q (.lst (xs++ys),.fr)):EvP (binD .Add (.lst xs) (.lst ys)) Q:=⟨_,if_pos l,h⟩
theorem zTg (h:Q (.int (i - j),.cl)):EvP (binD .Sub (.int i) (.int j)) Q:=⟨_,rfl,h⟩
theorem zBA (l:IntMulOk i j)(h:Q (.int (i*j),.cl)):EvP (binD .Mult (.int i) (.int j)) Q:=⟨_,by show mulD i j=_;unfold mulD;exact if_pos l,h⟩
theorem zCM (l:zI8 i j)(h:Q (.int (i.fdiv j),.cl)):EvP (binD .FloorDiv (.int i) (.int j)) Q:=⟨_,by show zNE i j=_;unfold zNE;exact if_pos l,h⟩
theorem zBB (l:j≠0)(h:Q (.int (i.fmod j),.cl)):EvP (binD .Mod (.int i) (.int j)) Q:=⟨_,if_neg l,h⟩
theorem zUe (l:0<=j/\j<=1000000/\i.natAbs < 2^64)(h:Q (.int (i^j.toNat),.cl)):EvP (binD .Pow (.int i) (.int j)) Q:=⟨_,if_pos l,h⟩
theorem c_lt (h:Q (.bl (decide (i < j)),.cl)):EvP (cmpD .Lt (.int i) (.int j)) Q:=⟨_,rfl,h⟩
theorem c_le (h:Q (.bl (decide (i<=j)),.cl)):EvP (cmpD .LtE (.int i) (.int j)) Q:=⟨_,rfl,h⟩
theorem c_gt (h:Q (.bl (decide (j < i)),.cl)):EvP (cmpD .Gt (.int i) (.int j)) Q:=⟨_,rfl,h⟩
theorem zIB (i j:Int):EqOk (.int i) (.int j):=⟨by rw[toPy];rfl,by rw[toPy];rfl,by rw[toPy];exact zero_le _⟩
theorem zLM (i j:Int):eqb (.int i) (.int j)=decide (i=j):=by
 unfold eqb;rw[toPy,toPy];show (i==j)=decide (i=j);by_cases h:i=j<;>simp[h]
theorem zTd (h:Q (.bl (decide (i=j)),.cl)):EvP (cmpD .Eq (.int i) (.int j)) Q:=⟨_,by show eqD id _ _=_;unfold eqD;rw[if_pos (zIB i j),zLM];rfl,h⟩
theorem zQz (h:Q (.bl (!decide (i=j)),.cl)):EvP (cmpD .NotEq (.int i) (.int j)) Q:=⟨_,by show eqD _ _ _=_;unfold eqD;rw[if_pos (zIB i j),zLM],h⟩
theorem c_eq (l:EqOk x y)(h:Q (.bl (eqb x y),.cl)):EvP (cmpD .Eq x y) Q:=⟨_,by show eqD id _ _=_;unfold eqD;exact if_pos l,h⟩
theorem c_ne (l:EqOk x y)(h:Q (.bl (!eqb x y),.cl)):EvP (cmpD .NotEq x y) Q:=⟨_,by show eqD _ _ _=_;unfold eqD;exact if_pos l,h⟩
theorem zDG (e:atI ds i=some d)(h:Q (d,.cl)):EvP (ixD (.tup ds) (.int i)) Q:=⟨_,by show (atI ds i).map _=_;rw[e];rfl,h⟩
theorem zA9 (e:atI ds i=some d)(h:Q (d,.cl)):EvP (ixD (.lst ds) (.int i)) Q:=⟨_,by show (atI ds i).map _=_;rw[e];rfl,h⟩
theorem zGM (h:Q (.int ds.length,.cl)):EvP (lenD (.lst ds)) Q:=⟨_,rfl,h⟩
theorem zSQ (h:Q (.int ds.length,.cl)):EvP (lenD (.tup ds)) Q:=⟨_,rfl,h⟩
theorem zUf (h:Q (.int (i.natAbs:Int),.cl)):EvP (absD (.int i)) Q:=⟨_,rfl,by
 have e:(if i < 0 then -i else i)=(i.natAbs:Int):=by split<;>omega
 rw[e];exact h⟩
theorem zJH (h:Q (.lst ds,.fr)):EvP (zIl (.lst ds)) Q:=⟨_,rfl,h⟩
theorem zUB (h:Q (.int (max i j),.cl)):EvP (maxD (.int i) (.int j)) Q:=⟨_,rfl,by
 have e:(if j>i then j else i)=max i j:=by split<;>omega
 rw[e];exact h⟩
end
section
variable {J:Gm}{G:Dst}{Q:Out->Prop}
def Kt (J:Gm)(rest:S)(Q:Out->Prop):Out->Prop
 | .nx G'=>EvP (evSs J rest G') Q
 | o=>Q o
theorem k_nx (h:EvP (evSs J rest G) Q):Kt J rest Q (.nx G):=h
theorem k_rt (h:Q (.rt r)):Kt J rest Q (.rt r):=h
theorem zBl (h:Q (.nx G)):EvP (evSs J .nil G) Q:=⟨_,rfl,h⟩
theorem zK3 (h:EvP (f G) λo=>match o with | .nx G'=>EvP (g G') Q | o=>Q o):EvP (seqD f g G) Q:=by
 obtain⟨o,e,q⟩:=h;unfold seqD;rw[e];cases o with
 | nx G'=>exact q
 | rt r=>exact⟨_,rfl,q⟩
 | bk G'=>exact⟨_,rfl,q⟩
 | ct G'=>exact⟨_,rfl,q⟩
theorem zAI (h:EvP (evS J a G) (Kt J b Q)):EvP (evSs J (.cons a b) G) Q:=by
 rw[zLA];refine zK3 (h.imp λo q=>?_);cases o<;>exact q
theorem zH3 (e:G[i]?=some (some (d,true)))(h:EvP (evSs J r (G.set i (some (d,false)))) Q):EvP (evSs J (.frz i r) G) Q:=by
 rw[zH8];exact zK3 ⟨_,by unfold frzD;rw[e],h⟩
theorem zHE (e:G[i]?=some (some (d,false)))(h:EvP (evSs J r G) Q):EvP (evSs J (.frz i r) G) Q:=by
 rw[zH8];exact zK3 ⟨_,by unfold frzD;rw[e],h⟩
def ownK:Kd->Option Bool
 | .cl=>some false
 | .fr=>some true
 | .dt=>none
theorem zDN (h:EvP (evE J e G) λr=>∃ o,ownK r.2=some o/\Q (.nx (G.set i (some (r.1,o))))):EvP (evS J (.set i e) G) Q:=by
 rw[zQf];obtain⟨⟨d,k⟩,e,o,eo,q⟩:=h;unfold setD;rw[e];cases k with
 | cl=>cases eo;exact⟨_,rfl,q⟩
 | fr=>cases eo;exact⟨_,rfl,q⟩
 | dt=>cases eo
theorem zHI (h:EvP (evE J e G) λr=>∃ o,ownK r.2=some o/\Q (.nx (G.set i (some (r.1,o))))):EvP (evS J (.setC i e) G) Q:=by
 rw[zNL];obtain⟨⟨d,k⟩,e,o,eo,q⟩:=h;unfold setD;rw[e];cases k with
 | cl=>cases eo;exact⟨_,rfl,q⟩
 | fr=>cases eo;exact⟨_,rfl,q⟩
 | dt=>cases eo
theorem zEV (hx:G[i]?=some (some (.lst xs,true)))(hl:xs.length<=10000)(h:EvP (evE J e G) λr=>r.2≠.dt/\Q (.nx (G.set i (some (.lst (xs++[r.1]),true))))):EvP (evS J (.app i e) G) Q:=by
 rw[zQj];obtain⟨r,e,nd,q⟩:=h;unfold appD;rw[hx];exact⟨_,by dsimp only;rw[e];show (if r.2=.dt then none else _)=_;rw[if_neg nd,if_pos hl],q⟩
theorem zEU (h:EvP (evE J c G) λx=>∃ k,x.1=.bl k/\CB k (EvP (evSs J a G) Q) (EvP (evSs J b G) Q)):EvP (evS J (.ife c a b) G) Q:=by
 rw[zQh];obtain⟨⟨d,kd⟩,e,k,ek,q⟩:=h;cases ek;unfold ifD;rw[zEc e];cases k with
 | true=>exact q
 | false =>
  unfold CB at q;rw[if_neg qY] at q;exact q
theorem zBr (h:EvP (evE J e G) λr=>r.2≠.dt/\Q (.rt r)):EvP (evS J (.ret e) G) Q:=by
 rw[zQg];obtain⟨r,e,nd,q⟩:=h;exact⟨_,by unfold retD;rw[e];exact if_neg nd,q⟩
theorem zLJ (e:G[i]?=some (some (.lst d,true)))(h:Q (.rt (.lst d,.fr))):EvP (evS J (.retOwn i) G) Q:=by
 rw[zIx];exact⟨_,by unfold zD7;rw[e],h⟩
theorem zBi (h:EvP (c G) λk=>CB k (EvP (b G) λo=>match o with
      | .nx G'=>EvP (zBb c b G') Q
      | .ct G'=>EvP (zBb c b G') Q
      | .bk G'=>Q (.nx G')
      | .rt r=>Q (.rt r)) (Q (.nx G))):EvP (zBb c b G) Q:=by
  obtain⟨k,ek,q⟩:=h;cases k with
  | false =>
    unfold CB at q;rw[if_neg qY] at q;refine⟨_,zCT (n:=1) (o:=.nx G) ?_,q⟩;show (c G).bind _=_;rw[ek];rfl
  | true =>
    obtain⟨o,eo,q⟩:EvP (b G) _:=q;cases o with
    | nx G' =>
      obtain⟨z,ez,q⟩:=q;obtain⟨n,en⟩:=zDQ ez;refine⟨z,zCT (n:=n+1) ?_,q⟩;show (c G).bind _=_;rw[ek,qx,if_pos rfl,eo];exact en
    | ct G' =>
      obtain⟨z,ez,q⟩:=q;obtain⟨n,en⟩:=zDQ ez;refine⟨z,zCT (n:=n+1) ?_,q⟩;show (c G).bind _=_;rw[ek,qx,if_pos rfl,eo];exact en
    | bk G' =>
      refine⟨_,zCT (n:=1) (o:=.nx G') ?_,q⟩;show (c G).bind _=_;rw[ek,qx,if_pos rfl,eo];rfl
    | rt r =>
      refine⟨_,zCT (n:=1) (o:=.rt r) ?_,q⟩;show (c G).bind _=_;rw[ek,qx,if_pos rfl,eo];rfl
theorem zOZ (h:EvP (zBb (asB (evE J c)) (evSs J b) G) Q):EvP (evS J (.whl c b) G) Q:=h
theorem as_b {Q:Bool->Prop}(h:EvP (evE J c G) λx=>∃ k,x.1=.bl k/\Q k):EvP (asB (evE J c) G) Q:=by
 obtain⟨⟨d,kd⟩,e,k,ek,q⟩:=h;cases ek;exact⟨k,zEc e,q⟩
theorem zDc (h:EvP (evI J it G) λxs=>EvP (forD (tg1 i) (evSs J b) xs G) Q):EvP (evS J (.for1 i it b) G) Q:=EvP.bind h
theorem zJP {Q:List D->Prop}(h:EvP (evE J e G) λx=>∃ ds,x.2≠.dt/\(x.1=.lst ds\/x=(.tup ds,.cl))/\Q ds):EvP (evI J (.it e) G) Q:=by
 obtain⟨⟨d,k⟩,e,ds,nd,ed,q⟩:=h;refine⟨ds,?_,q⟩;rw[zTO];unfold zGN;rw[e];rcases ed with ed | ed
 .cases ed;cases k with
  | cl=>rfl
  | fr=>rfl
  | dt=>exact absurd rfl nd
 .cases ed;rfl
theorem w_cl {P:List D->Prop}(h:P ds):∃ d,((D.lst ds,Kd.cl):R).2≠.dt/\(((D.lst ds,Kd.cl):R).1=.lst d\/((D.lst ds,Kd.cl):R)=(.tup d,.cl))/\P d:=⟨ds,(λz=>nomatch z),.inl rfl,h⟩
theorem w_fr {P:List D->Prop}(h:P ds):∃ d,((D.lst ds,Kd.fr):R).2≠.dt/\(((D.lst ds,Kd.fr):R).1=.lst d\/((D.lst ds,Kd.fr):R)=(.tup d,.cl))/\P d:=⟨ds,(λz=>nomatch z),.inl rfl,h⟩
theorem w_tu {P:List D->Prop}(h:P ds):∃ d,((D.tup ds,Kd.cl):R).2≠.dt/\(((D.tup ds,Kd.cl):R).1=.lst d\/((D.tup ds,Kd.cl):R)=(.tup d,.cl))/\P d:=⟨ds,(λz=>nomatch z),.inr rfl,h⟩
theorem zJO {Q:List D->Prop}(h:EvP (evE J a G) λx=>∃ j,x.1=.int j/\(-(2^62)<=j/\j < 2^62)/\Q (rngL 0 j.toNat)):EvP (evI J (.r1 a) G) Q:=by
 obtain⟨⟨d,k⟩,e,j,ej,hj,q⟩:=h;cases ej;refine⟨_,?_,q⟩;rw[zTN];unfold zJc;rw[e];exact if_pos hj
theorem zRK {Q:List D->Prop}(h:EvP (evE J a G) λx=>EvP (evE J b G) λy=>EvP (evE J c G) λz=>∃ i j k,x.1=.int i/\y.1=.int j/\z.1=.int k/\ROk i j k/\Q (rngS i k (Builtin.Range.rangeSize i j k).toNat)):EvP (evI J (.r3 a b c) G) Q:=by
 obtain⟨⟨d,k⟩,e,⟨d2,k2⟩,e2,⟨d3,k3⟩,e3,i,j,l,ei,ej,el,hj,q⟩:=h;cases ei;cases ej;cases el;refine⟨_,?_,q⟩;rw[zTM];unfold zJb;rw[e,e2,e3];exact if_pos hj
theorem zDM {Q:R->Prop}(h:EvP (evI J src G) λzs=>zs.length<=10000/\EvP (zBn (tg1 n) (evC J c) (evE J el) zs (mask none ms G++[none])) λys=>Q (.lst ys,.fr)):EvP (evE J (.comp1 n ms x src c el) G) Q:=by
 obtain⟨zs,e,hl,ys,e2,q⟩:=h;refine⟨_,?_,q⟩;rw[zLI];unfold zI0;rw[e];show (if zs.length<=10000 then _ else _)=_;rw[if_pos hl];show (zBn _ _ _ zs (mask none ms G++[none])).bind _=_;rw[e2]
 rfl
theorem zE1 {Q:List D->Prop}(hn:base.length=n)(g:D->D):∀ (zs:List D) (o:Option (D×Bool)),(∀ z∈zs,EvP (evE J el (base++[some (z,false)])) λr=>r.2≠.dt/\r.1=g z)->Q (zs.map g)->EvP (zBn (tg1 n) (evC J .nil) (evE J el) zs (base++[o])) Q
 | [],o,_,h=>⟨_,rfl,h⟩
 | z::zs,o,hz,h=>by
  obtain⟨r,e,nd,er⟩:=hz z q8;obtain⟨ys,e2,q⟩:=zE1 hn g zs (some (z,false)) (Q:=λys=>Q (g z::ys)) (λy hy=>hz y (qJ _ hy)) h;refine⟨_,?_,q⟩;have es:(base++[o]).set n (some (z,false))=base++[some (z,false)]:=by
   rw[set_append_right _ _ (by omega),hn,sub_self];rfl
  show (tg1 n z (base++[o])).bind _=_;unfold tg1;rw[es,qx,zDb,qx,if_pos rfl,e,qx,if_neg nd,er];show (zBn _ _ _ zs (base++[some (z,false)])).bind _=_;unfold tg1 at e2;rw[zDb] at e2;rw[e2]
  rfl
theorem zKx (h:Q (.nx G)):EvP (forD t b [] G) Q:=⟨_,rfl,h⟩
def Kf (t:D->Dst->Option Dst)(b:Dst->Option Out)(xs:List D)(Q:Out->Prop):Out->Prop
 | .nx G'=>EvP (forD t b xs G') Q
 | .ct G'=>EvP (forD t b xs G') Q
 | .bk G'=>Q (.nx G')
 | .rt r=>Q (.rt r)
theorem zFj (e:t x G=some O5)(h:EvP (b O5) (Kf t b xs Q)):EvP (forD t b (x::xs) G) Q:=by
 obtain⟨o,eo,q⟩:=h;cases o with
 | nx G' =>
  obtain⟨z,ez,q⟩:EvP (forD t b xs G') Q:=q;exact⟨z,by show (t x G).bind _=_;rw[e];show (b O5).bind _=_;rw[eo];exact ez,q⟩
 | ct G' =>
  obtain⟨z,ez,q⟩:EvP (forD t b xs G') Q:=q;exact⟨z,by show (t x G).bind _=_;rw[e];show (b O5).bind _=_;rw[eo];exact ez,q⟩
 | bk G'=>exact⟨_,by show (t x G).bind _=_;rw[e];show (b O5).bind _=_;rw[eo];rfl,q⟩
 | rt r=>exact⟨_,by show (t x G).bind _=_;rw[e];show (b O5).bind _=_;rw[eo];rfl,q⟩
theorem zUE (h:EvP (forD t b xs G) Q):Kf t b xs Q (.nx G):=h
theorem zDl (I:List D->Dst->Prop)(hs:∀ (x:D) (xs:List D) (G:Dst),I (x::xs) G->∃ O5,t x G=some O5/\EvP (b O5) λo=>match o with
   | .nx G'=>I xs G'
   | .ct G'=>I xs G'
   | .bk G'=>Q (.nx G')
   | .rt r=>Q (.rt r)) (hd:∀ G,I [] G->Q (.nx G)):∀ (xs:List D) (G:Dst),I xs G->EvP (forD t b xs G) Q
 | [],G,h=>zKx (hd G h)
 | x::xs,G,h=>by
  obtain⟨O5,e,q⟩:=hs x xs G h;refine zFj e (q.imp λo z=>?_);cases o with
  | nx G'=>exact zDl I hs hd xs G' z
  | ct G'=>exact zDl I hs hd xs G' z
  | bk G'=>exact z
  | rt r=>exact z
def Kd' (Q:R->Prop):Out->Prop
 | .rt r=>Q r
 | .nx _=>Q (.non,.cl)
 | _=>False
theorem zUZ {Q:R->Prop}(h1:ds.length=np)(h2:np<=nN)(h:EvP (evSs J b (ds.map (λd=>some (d,false))++List.replicate (nN - np) none)) (Kd' Q)):EvP (dFun np nN (evSs J b) ds) Q:=by
 unfold dFun;rw[if_pos ⟨h1,h2⟩];obtain⟨o,e,q⟩:=h;rw[e];cases o with
 | rt r=>exact⟨_,rfl,q⟩
 | nx _=>exact⟨_,rfl,q⟩
 | bk _=>exact q.elim
 | ct _=>exact q.elim
theorem zUF {Q:R->Prop}(h:Q r):Kd' Q (.rt r):=h
end
section
variable {J:Gm}{G:Dst}{Q:R->Prop}
theorem zOY (h:EvP (evE J a G) λx=>EvP (evE J b G) λy=>EvP (cmpD op x.1 y.1) λr=>∃ k,r.1=.bl k/\CB k (EvP (evE J c G) λz=>EvP (cmpD op' y.1 z.1) Q) (Q (.bl false,.cl))):EvP (evE J (.chn op op' a b c) G) Q:=by
 rw[zQs];obtain⟨x,ex,y,ey,⟨d,kd⟩,er,k,ek,q⟩:=h;cases ek;unfold chD;rw[ex];show EvP ((evE J b G).bind _) Q;rw[ey];show EvP (match cmpD op x.1 y.1 with | some (.bl true,_)=>(evE J c G).bind λz=>cmpD op' y.1 z.1 | some (.bl false,_)=>some (.bl false,.cl) | _=>none) Q;rw[er];cases k with
 | true=>exact EvP.bind q
 | false=>unfold CB at q;rw[if_neg qY] at q;exact⟨_,rfl,q⟩
theorem zK4 (h:EvP (evE J a G) λx=>EvP (zFw x.1) Q):EvP (evE J (.tupl a) G) Q:=zEw h
theorem zRE (h:Q (.tup ds,.cl)):EvP (zFw (.lst ds)) Q:=⟨_,rfl,h⟩
end
theorem zTQ (ei:G[i]?=some (some (.lst xs,true)))(h:EvP (evE J e G) λr=>∃ ys,r=(.lst ys,.fr)/\xs.length+ys.length<=10000/\Q (.nx (G.set i (some (.lst (xs++ys),true))))):EvP (evS J (.ext i e) G) Q:=by
 rw[zQi];obtain⟨r,e1,ys,rfl,hl,q⟩:=h;refine⟨_,?_,q⟩;unfold extD;rw[ei];show (evE J e G).bind _=_;rw[e1];exact if_pos hl
theorem zQb (h:EvP (evE J a G) λx=>∃ xs,x.1=.lst xs/\xs.length<=10000/\Q (.lst xs.reverse,.fr)):EvP (evE J (.lrev a) G) Q:=by
 rw[zNQ];obtain⟨x,e,xs,e1,hl,q⟩:=h;refine zEw ⟨x,e,_,?_,q⟩;rw[e1];exact if_pos hl
end DL
end
section
namespace DM
def msr (t b:Int):Int:=if b < 0 then -(Int.gcd t b:Int) else (Int.gcd t b:Int)
theorem zKI (hb:b≠0):msr t b≠0:=by
 unfold msr;have h:Int.gcd t b≠0:=λh=>hb ((Int.gcd_eq_zero_iff).mp h).2
 split<;>omega
theorem zGH (t b:Int):msr t b∣t:=by
 unfold msr;split
 .exact Int.neg_dvd.mpr (Int.gcd_dvd_left ..)
 .exact Int.gcd_dvd_left ..
theorem zKJ (t b:Int):msr t b∣b:=by
 unfold msr;split
 .exact Int.neg_dvd.mpr (Int.gcd_dvd_right ..)
 .exact Int.gcd_dvd_right ..
theorem zC2 {b:Int}(h:b∣a):a.fdiv b=a / b:=by
 exact Int.fdiv_eq_ediv_of_dvd h
theorem zG4 (hb:b≠0):t.fdiv (msr t b)=(Rat.divInt t b).num:=by
 rw[zC2 (zGH t b),Rat.num_divInt];rw[Int.gcd_comm b t];unfold msr;by_cases h:b < 0
 .rw [if_pos h,Int.sign_eq_neg_one_of_neg h,Int.ediv_neg,Int.neg_one_mul];rw[Int.neg_ediv_of_dvd (Int.gcd_dvd_left ..)]
 .rw [if_neg h,Int.sign_eq_one_of_pos (by omega),Int.one_mul]
theorem zKK (hb:b≠0):b.fdiv (msr t b)=((Rat.divInt t b).den:Int):=by
 rw[zC2 (zKJ t b),Rat.den_divInt,if_neg hb,Int.gcd_comm b t];unfold msr;rw[Int.natCast_ediv];by_cases h:b < 0
 .rw [if_pos h,Int.ediv_neg,<- Int.neg_ediv_of_dvd (Int.gcd_dvd_right ..)];congr 1;omega
 .rw [if_neg h];congr 1;omega
theorem zTW (t b:Int)(hb:b≠0):(Rat.divInt t b).den<=b.natAbs:=by
 rw[Rat.den_divInt,if_neg hb];exact Nat.div_le_self _ _
theorem zR4 (t b:Int)(hb:b≠0):(Rat.divInt t b).num.natAbs<=t.natAbs:=by
 rw[<- zG4 hb,zC2 (zGH t b)];exact Int.natAbs_ediv_le_natAbs _ _
theorem zUc (hb:b≠0)(q:Rat):q=Rat.divInt t b<->q.num*b=t*(q.den:Int):=by
 constructor
 .intro h;have e:=Rat.num_divInt_den q;rw[h] at e;rw[h];have z:((Rat.divInt t b).den:Int)≠0:=by
   have:=(Rat.divInt t b).den_nz;omega
  exact(Rat.divInt_eq_divInt_iff z hb).mp e
 .intro h;rw[<- Rat.num_divInt_den q];have z:(q.den:Int)≠0:=by
   have:=q.den_nz;omega
  exact(Rat.divInt_eq_divInt_iff z hb).mpr h
theorem zHz (ha:0<=a)(hb:0 < b):Int.gcd b (a.fmod b)=Int.gcd a b:=by
 rw[Int.fmod_eq_emod_of_nonneg a (by omega)];have h1:(a%b).natAbs=a.natAbs%b.natAbs:=by
  have:a%b=((a.natAbs%b.natAbs:Nat):Int):=by
   rw[Int.natCast_emod];congr 1<;>omega
  rw[this];rfl
 show Nat.gcd b.natAbs (a%b).natAbs=Nat.gcd a.natAbs b.natAbs;rw[h1,Nat.gcd_comm b.natAbs,<- Nat.gcd_rec,Nat.gcd_comm]
noncomputable def nadd:List Rat->List Rat
 | a::b::r=>(a+b)::nadd r
 | l=>l
noncomputable def sumR:List Rat->Rat
 | []=>0
 | a::r=>a+sumR r
theorem zDw:∀ l m:List Rat,sumR (l++m)=sumR l+sumR m
 | [],m=>by simp[sumR,Rat.zero_add]
 | a::l,m=>by simp only[cons_append,sumR,zDw l m,Rat.add_assoc]
theorem zHr:∀ l:List Rat,sumR (nadd l)=sumR l
 | []=>rfl
 | [_]=>rfl
 | a::b::r=>by simp only[nadd,sumR,zHr r,Rat.add_assoc]
theorem zHs:∀ l:List Rat,(nadd l).length=(l.length+1) / 2
 | []=>by simp[nadd]
 | [_]=>by simp[nadd]
 | a::b::r=>by simp only[nadd,xY,zHs r];omega
theorem zKF:∀ l:List Rat,(List.range (l.length / 2)).map (λi=>l.getD (2*i) 0+l.getD (2*i+1) 0)++(if l.length%2=1 then [l.getD (l.length - 1) 0] else [])=nadd l
 | []=>by simp[nadd]
 | [a]=>by simp[nadd]
 | a::b::r=>by
  have e1:(a::b::r).length / 2=r.length / 2+1:=by simp only[xY];omega
  have e2:(a::b::r).length%2=r.length%2:=by simp only[xY];omega
  rw[e1,e2,List.range_succ_eq_map,map_cons,map_map,nadd,<- zKF r];have e3:((λi=>(a::b::r).getD (2*i) 0+(a::b::r).getD (2*i+1) 0)∘Nat.succ)=λi=>r.getD (2*i) 0+r.getD (2*i+1) 0:=by
   funext i;simp only[Function.comp];rw[show 2*(i.succ)=2*i+1+1 by omega];simp only[List.getD_cons_succ]
  rw[e3];have e4:r.length%2=1->(a::b::r).getD ((a::b::r).length - 1) 0=r.getD (r.length - 1) 0:=λh=>by
   rw[show (a::b::r).length - 1=(r.length - 1)+1+1 by simp only[xY];omega];simp only[List.getD_cons_succ]
  by_cases h:r.length%2=1
  .rw [if_pos h,if_pos h,e4 h];rfl
  .rw [if_neg h,if_neg h];rfl
abbrev Pt:=Rat×Rat
def rot {U:Type}(ps:List U):List U:=ps.drop 1++ps.take 1
def zBF (ps:List Pt):List (Pt×Pt):=ps.zip (rot ps)
theorem zJa {U:Type}(ps:List U):(rot ps).length=ps.length:=by
 unfold rot;rw[qQ,length_drop,length_take];omega
theorem zF4 (ps:List Pt):(zBF ps).length=ps.length:=by
 unfold zBF;rw[List.length_zip,zJa,Nat.min_self]
theorem zF3 (h:s∈zBF ps):s.1∈ps/\s.2∈ps:=by
 unfold zBF at h;obtain⟨h1,h2⟩:=of_mem_zip (a:=s.1) (b:=s.2) h;refine⟨h1,?_⟩;unfold rot at h2;rcases mem_append.mp h2 with z | z
 .exact List.mem_of_mem_drop z
 .exact x8 z
abbrev Ln:=Rat×Rat×Rat
def hq (L:Ln)(p:Pt):Rat:=L.1*p.1+L.2.1*p.2 - L.2.2
def pw (x y t:Rat):Rat:=x+t*(y - x)
def zTa (u v:Rat):Prop:=(0 < u/\v < 0)\/(u < 0/\0 < v)
noncomputable instance (u v:Rat):Decidable (zTa u v):=inferInstanceAs (Decidable (_\/_))
noncomputable def ptAt (s:Pt×Pt)(t:Rat):Pt:=(pw s.1.1 s.2.1 t,pw s.1.2 s.2.2 t)
def tOf (a b:Rat)(n:Int):Rat:=((n:Rat) - a) / (b - a)
def upQ (a b:Rat)(last:Nat):List Int:=((List.range (last+1)).map Int.ofNat).filter λn=>decide (a < (n:Rat))&&decide ((n:Rat) < b)
def zCz (a b:Rat)(last:Nat):List Int:=if b < a then (upQ b a last).reverse else upQ a b last
def tsQ (a b:Rat)(last:Nat):List Rat:=(zCz a b last).map (tOf a b)
theorem zDW :n∈upQ a b last<->0<=n/\n<=last/\a < (n:Rat)/\(n:Rat) < b:=by
 unfold upQ;simp only[mem_filter,mem_map,mem_range,x9,qj];constructor
 .rintro ⟨⟨k,hk,rfl⟩,h1,h2⟩;exact⟨Int.natCast_nonneg _,by show (k:Int)<=_;omega,h1,h2⟩
 .rintro ⟨h0,h1,h2,h3⟩;exact⟨⟨n.toNat,by omega,by show ((n.toNat:Nat):Int)=n;omega⟩,h2,h3⟩
theorem zHl (h:a≠b)(n:Int):pw a b (tOf a b n)=n:=by
 unfold pw tOf;have hd:b - a≠0:=by grind
 have:=Rat.mul_inv_cancel _ hd;rw[Rat.div_def];grind
theorem zNw (h:a≠b){n:Int}(e:pw a b t=n):t=tOf a b n:=by
 unfold tOf;unfold pw at e;have hd:b - a≠0:=by grind
 have:=Rat.mul_inv_cancel _ hd;rw[Rat.div_def];grind
theorem zJi (h:a < b):pw a b t < pw a b u<->t < u:=by
 unfold pw;have hd:0 < b - a:=by grind
 constructor
 .intro z;refine Rat.not_le.mp λc=>?_
  have:=Rat.mul_le_mul_of_nonneg_right c (Rat.le_of_lt hd);grind
 .intro z;have:=Rat.mul_lt_mul_of_pos_right z hd;grind
theorem zJj (h:b < a):pw a b t < pw a b u<->u < t:=by
 unfold pw;have hd:0 < a - b:=by grind
 constructor
 .intro z;refine Rat.not_le.mp λc=>?_
  have:=Rat.mul_le_mul_of_nonneg_right c (Rat.le_of_lt hd);grind
 .intro z;have:=Rat.mul_lt_mul_of_pos_right z hd;grind
theorem pw_0 (a b:Rat):pw a b 0=a:=by unfold pw;grind
theorem pw_1 (a b:Rat):pw a b 1=b:=by unfold pw;grind
def Meets (a b:Rat)(last:Nat)(t:Rat):Prop:=a≠b/\0 < t/\t < 1/\∃ n:Int,0<=n/\n<=last/\pw a b t=n
theorem zPl :t∈tsQ a b last<->Meets a b last t:=by
 unfold tsQ zCz Meets;by_cases h:b < a
 .rw [if_pos h];have ne:a≠b:=by grind
  simp only[mem_map,List.mem_reverse];constructor
  .rintro ⟨n,hn,rfl⟩;obtain⟨h0,h1,h2,h3⟩:=zDW.mp hn;have e:=zHl ne n;refine⟨ne,(zJj h).mp ?_,(zJj h).mp ?_,n,h0,h1,e⟩
   .rw [e,pw_0];exact h3
   .rw [e,pw_1];exact h2
  .rintro ⟨_,t0,t1,n,h0,h1,e⟩;refine⟨n,zDW.mpr ⟨h0,h1,?_,?_⟩,(zNw ne e).symm⟩
   .rw [<- e];have:=(zJj h (t:=1) (u:=t)).mpr t1;rw[pw_1] at this;exact this
   .rw [<- e];have:=(zJj h (t:=t) (u:=0)).mpr t0;rw[pw_0] at this;exact this
 .rw [if_neg h];by_cases ne:a=b
  .subst ne;constructor
   .intro hm;obtain⟨n,hn,_⟩:=mem_map.mp hm;obtain⟨_,_,h1,h2⟩:=zDW.mp hn;grind
   .rintro ⟨z,_⟩;exact absurd rfl z
  .have hlt:a < b:=by grind
   simp only[mem_map];constructor
   .rintro ⟨n,hn,rfl⟩;obtain⟨h0,h1,h2,h3⟩:=zDW.mp hn;have e:=zHl ne n;refine⟨ne,(zJi hlt).mp ?_,(zJi hlt).mp ?_,n,h0,h1,e⟩
    .rw [e,pw_0];exact h2
    .rw [e,pw_1];exact h3
   .rintro ⟨_,t0,t1,n,h0,h1,e⟩;refine⟨n,zDW.mpr ⟨h0,h1,?_,?_⟩,(zNw ne e).symm⟩
    .rw [<- e];have:=(zJi hlt (t:=0) (u:=t)).mpr t0;rw[pw_0] at this;exact this
    .rw [<- e];have:=(zJi hlt (t:=t) (u:=1)).mpr t1;rw[pw_1] at this;exact this
def zE0 (t:Rat):List Rat->List Rat
 | []=>[]
 | u::us=>if u=t then us else u::us
theorem zCH (t u:Rat)(us:List Rat):zE0 t (u::us)=if u=t then us else u::us:=rfl
noncomputable def zBM:List Rat->List Rat->List Rat
 | [],us=>us
 | t::ts,us=>us.takeWhile (λu=>decide (u < t))++t::zBM ts (zE0 t (us.dropWhile λu=>decide (u < t)))
theorem zEz (t:Rat)(us:List Rat):(zE0 t us).Sublist us:=by
 cases us with
 | nil=>exact List.Sublist.refl _
 | cons u us =>
  rw[zCH];split
  .exact List.sublist_cons_self _ _
  .exact List.Sublist.refl _
theorem zIg :u∈us->u≠t->u∈zE0 t us:=by
 intro h ne;cases us with
 | nil=>exact absurd h (by simp)
 | cons x us =>
  rw[zCH];split
  .rename_i e;rcases mem_cons.mp h with rfl | h
   .exact absurd e ne
   .exact h
  .exact h
theorem zEs:∀ {ts us:List Rat} {x:Rat},x∈zBM ts us<->x∈ts\/x∈us
 | [],us,x=>by simp[zBM]
 | t::ts,us,x=>by
  rw[zBM];simp only[mem_append,mem_cons,zEs (ts:=ts)];have key:∀ x,x∈us<->x∈us.takeWhile (λu=>decide (u < t))\/x∈us.dropWhile (λu=>decide (u < t)):=λx=>by
   conv=>lhs;rw[<- List.takeWhile_append_dropWhile (p:=λu=>decide (u < t)) (l:=us)]
   exact mem_append
  constructor
  .rintro (h | rfl | h | h)
   .exact .inr ((key x).mpr (.inl h))
   .exact .inl (.inl rfl)
   .exact .inl (.inr h)
   .exact .inr ((key x).mpr (.inr ((zEz t _).subset h)))
  .rintro ((rfl | h) | h)
   .exact .inr (.inl rfl)
   .exact .inr (.inr (.inl h))
   .rcases (key x).mp h with h | h
    .exact .inl h
    .by_cases e:x=t
     .exact .inr (.inl e)
     .exact .inr (.inr (.inr (zIg h e)))
noncomputable def midQ (w h:Nat)(s:Pt×Pt):List Rat:=zBM (tsQ s.1.1 s.2.1 w) (tsQ s.1.2 s.2.2 h)
def zDp (w h:Nat)(s:Pt×Pt):List Rat:=0::midQ w h s++[1]
noncomputable def adj:List Rat->List (Rat×Rat)
 | a::b::r=>(a,b)::adj (b::r)
 | _=>[]
theorem zLq (a b:Rat)(r:List Rat):adj (a::b::r)=(a,b)::adj (b::r):=by rw[adj]
theorem zLr (a:Rat):adj [a]=[]:=by rw[adj];intros;simp_all
theorem zLs:adj []=[]:=by rw[adj];intros;simp_all
def mid2 (p:Rat×Rat):Rat:=(p.1+p.2) / 2
theorem zFf (x:Rat):x / 2=1 / 2*x:=by rw[Rat.div_def,Rat.div_def];grind
theorem zN3 (a b:Rat)(p:Rat×Rat):pw a b (mid2 p)=(pw a b p.1+pw a b p.2) / 2:=by
 unfold pw mid2;rw[zFf,zFf];grind
def zI7 (w h:Nat)(s:Pt×Pt)(m:Rat):Prop:=(0<=pw s.1.2 s.2.2 m/\pw s.1.2 s.2.2 m < h)/\pw s.1.1 s.2.1 m < w
noncomputable instance (w h:Nat) (s:Pt×Pt):DecidablePred (zI7 w h s):=λm=>inferInstanceAs (Decidable (_/\_))
end DM
end
section
namespace DL
open PySem L2
def Bd (n:Nat)(i:Int):Prop:=i.natAbs < 2^n
theorem zFr (h:Bd n i):Builtin.Int.intBits i<=n:=by
 unfold Builtin.Int.intBits;split
 .exact zero_le _
 .rename_i hz;have hp:i.natAbs≠0:=by
   intro z;apply hz;have:i=0:=by omega
   subst this;rfl
  exact(Nat.log2_lt hp).mpr h
theorem zT6 (h1:Bd m i)(h2:Bd n j)(h3:m+n<=134217728):IntMulOk i j:=IntMulOk.of_le (zFr h1) (zFr h2) h3
theorem zEq (h:j.natAbs < 2^64):IntMulOk i j:=IntMulOk.of_right (zFr (n:=64) h)
theorem zCu (h:i.natAbs < 2^64):IntMulOk i j:=IntMulOk.of_left (zFr (n:=64) h)
theorem Bd.mono (h:Bd m i)(l:m<=n):Bd n i:=xQ h (Nat.pow_le_pow_right (by decide) l)
theorem zBt (h1:Bd m i)(h2:Bd n j):Bd (m+n) (i*j):=by
 unfold Bd at *;rw[Int.natAbs_mul,Nat.pow_add];exact Nat.mul_lt_mul'' h1 h2
theorem zHm (m n:Nat):2^m+2^n<=2^(Nat.max m n+1):=by
 have h1:2^m<=2^(Nat.max m n):=Nat.pow_le_pow_right (by decide) (Nat.le_max_left m n);have h2:2^n<=2^(Nat.max m n):=Nat.pow_le_pow_right (by decide) (Nat.le_max_right m n);rw[Nat.pow_succ];omega
theorem zTf (h1:Bd m i)(h2:Bd n j):Bd (Nat.max m n+1) (i+j):=by
 unfold Bd at *;have:=zHm m n;have:=Int.natAbs_add_le i j;omega
theorem zTe (h1:Bd m i)(h2:Bd n j):Bd (Nat.max m n+1) (i - j):=by
 unfold Bd at *;have:=zHm m n;have:=Int.natAbs_sub_le i j;omega
noncomputable def ratD (q:Rat):D:=.tup [.int q.num,.int (q.den:Int)]
structure RB (n:Nat)(q:Rat):Prop where
 num:Bd n q.num
 den:Bd n (q.den:Int)
theorem RB.mono (h:RB m q)(l:m<=n):RB n q:=⟨h.num.mono l,h.den.mono l⟩
theorem zEl (hb:b≠0)(h1:Bd n t)(h2:Bd n b):RB n (Rat.divInt t b) :=
 ⟨Nat.lt_of_le_of_lt (DM.zR4 t b hb) h1,Nat.lt_of_le_of_lt (by simpa using DM.zTW t b hb) h2⟩
theorem zBK (q:Rat):(q.den:Int)≠0:=by have:=q.den_nz;omega
theorem zEW (q:Rat):(0:Int) < (q.den:Int):=by have:=q.den_nz;omega
theorem zOj (p q:Rat):p+q=Rat.divInt (p.num*q.den+q.num*p.den) (p.den*q.den):=by
 have:=Rat.divInt_add_divInt p.num q.num (zBK p) (zBK q);rw[Rat.num_divInt_den,Rat.num_divInt_den] at this;exact this
theorem zJL (p q:Rat):p - q=Rat.divInt (p.num*q.den - q.num*p.den) (p.den*q.den):=by
 have:=Rat.divInt_sub_divInt p.num q.num (zBK p) (zBK q);rw[Rat.num_divInt_den,Rat.num_divInt_den] at this;exact this
theorem zKG (p q:Rat):p*q=Rat.divInt (p.num*q.num) (p.den*q.den):=by
 have:=Rat.divInt_mul_divInt p.num q.num (d₁:=p.den) (d₂:=q.den);rw[Rat.num_divInt_den,Rat.num_divInt_den] at this;exact this
theorem zOb (p q:Rat):p / q=Rat.divInt (p.num*q.den) (p.den*q.num):=by
 have e:q⁻¹=Rat.divInt q.den q.num:=by
  conv=>lhs;rw[<- Rat.num_divInt_den q,Rat.inv_divInt]
 rw[Rat.div_def,e];have:=Rat.divInt_mul_divInt p.num (q.den:Int) (d₁:=p.den) (d₂:=q.num);rw[Rat.num_divInt_den] at this;exact this
theorem zDj {a b:Int}(h1:a≠0)(h2:b≠0):a*b≠0:=Int.mul_ne_zero h1 h2
theorem zD9 (h1:RB m p)(h2:RB n q):RB (m+n+1) (p+q):=by
 rw[zOj];refine zEl (zDj (zBK p) (zBK q)) ?_ ((zBt h1.den h2.den).mono (by omega));refine(zTf (zBt h1.num h2.den) (zBt h2.num h1.den)).mono ?_;rw[Nat.add_comm n m];show Nat.max (m+n) (m+n)+1<=_;have:Nat.max (m+n) (m+n)=m+n:=Nat.max_self _;omega
theorem zCt (h1:RB m p)(h2:RB n q):RB (m+n+1) (p - q):=by
 rw[zJL];refine zEl (zDj (zBK p) (zBK q)) ?_ ((zBt h1.den h2.den).mono (by omega));refine(zTe (zBt h1.num h2.den) (zBt h2.num h1.den)).mono ?_;rw[Nat.add_comm n m];have:Nat.max (m+n) (m+n)=m+n:=Nat.max_self _;omega
theorem zDf (h1:RB m p)(h2:RB n q):RB (m+n) (p*q):=by
 rw[zKG];exact zEl (zDj (zBK p) (zBK q)) (zBt h1.num h2.num) (zBt h1.den h2.den)
theorem zOH {q:Rat}(h:q≠0):q.num≠0:=λz=>h (Rat.num_eq_zero.mp z)
theorem zGv (hq:q≠0)(h1:RB m p)(h2:RB n q):RB (m+n) (p / q):=by
 rw[zOb];exact zEl (zDj (zBK p) (zOH hq)) (zBt h1.num h2.den) (zBt h1.den h2.num)
theorem zD8 (h:Bd n i)(h1:1<=n):RB n (i:Rat):=by
 refine⟨?_,?_⟩
 .simpa using h
 .show (((i:Rat).den:Int)).natAbs < 2^n;have e:(i:Rat).den=1:=rfl;rw[e];exact Nat.one_lt_two_pow (by omega)
def zPk:S:=.cons (.whl (.cmp .Gt (.var 1) (.int 0)) (.cons (.set 2 (.bin .Mod (.var 0) (.var 1))) (.cons (.set 0 (.var 1)) (.cons (.set 1 (.var 2)) .nil)))) (.cons (.ret (.var 0)) .nil)
theorem x_bl {P:Bool->Prop}(h:P b):∃ c,((D.bl b,k):R).1=.bl c/\P c:=⟨b,rfl,h⟩
theorem zTp {P:Int->Prop}(h:P i):∃ j,((D.int i,k):R).1=.int j/\P j:=⟨i,rfl,h⟩
theorem x_cl {P:Bool->Prop}(h:P false):∃ o,ownK ((d,Kd.cl):R).2=some o/\P o:=⟨false,rfl,h⟩
theorem x_fr {P:Bool->Prop}(h:P true):∃ o,ownK ((d,Kd.fr):R).2=some o/\P o:=⟨true,rfl,h⟩
theorem n_cl (h:P):((d,Kd.cl):R).2≠.dt/\P:=⟨(λz=>nomatch z),h⟩
theorem n_fr (h:P):((d,Kd.fr):R).2≠.dt/\P:=⟨(λz=>nomatch z),h⟩
theorem y_l {P:List D->Prop}(h:P ds):∃ d,((D.lst ds,k):R).1=.lst d/\P d:=⟨ds,rfl,h⟩
theorem zPz (h:Q (.int q.num,.cl)):EvP (ixD (ratD q) (.int 0)) Q:=zDG rfl h
theorem zSZ (h:Q (.int (q.den:Int),.cl)):EvP (ixD (ratD q) (.int 1)) Q:=zDG rfl h
theorem zUH (h:Q (.bl true,.cl)):EvP (isiF .tuple (ratD q)) Q:=⟨_,rfl,h⟩
theorem zUD (h:Q (.int 2,.cl)):EvP (lenD (ratD q)) Q:=zSQ h
end DL
end
open PySem L2 DL
open PySem L2 DL
local macro_rules | `(tactic| walk_at "s")=>`(tactic| simp only [List.set_cons_zero,List.set_cons_succ])
local macro_rules | `(tactic| walk_at "ev")=>`(tactic| first
 | ((with_reducible show EvP (evE _ (E.var _) _) _);first | refine zAH rfl ?_ | refine zUb rfl ?_)
 | (with_reducible first | refine zAN ?_ | refine zNG ?_ | refine zAc ?_ | refine zBq ?_ | refine zBY ?_ | refine zDL ?_ | refine zOW ?_ | refine zB5 ?_ | refine zTK ?_ | refine zTG ?_ | refine zEx ?_ | refine zK7 ?_ | refine zUI ?_ | refine zUJ ?_ | refine is_bb ?_ | refine zUG ?_ | refine zPt ?_ | refine zUH ?_ | refine zQc ?_ | refine zH5 ?_ | refine zHF ?_ | refine zQd ?_ | refine zH7 ?_ | refine zH6 ?_ | refine zOX ?_ | refine zAe ?_ | refine zAD ?_ | refine ls_nil ?_ | refine ls_cons ?_ | refine zFk ?_ | refine zTH ?_ | refine ev_min ?_ | refine zQa ?_ | refine zTS ?_ | refine zQt ?_ | refine zK5 ?_ | refine ev_str ?_ | refine zDt ?_ | refine zTg ?_ | refine c_lt ?_ | refine c_le ?_ | refine c_gt ?_ | refine c_ge ?_ | refine zTd ?_ | refine zQz ?_ | refine c_eqB ?_ | refine c_neB ?_ | refine zPz ?_ | refine zSZ ?_ | refine zGM ?_ | refine zSQ ?_ | refine zUD ?_ | refine zUf ?_ | refine zJH ?_ | refine t_listT ?_ | refine zUB ?_ | refine m_min ?_ | refine zBl ?_ | refine zAI ?_ | refine zDN ?_ | refine zHI ?_ | refine zEU ?_ | refine zBr ?_ | refine es_retN ?_ | refine es_drop ?_ | refine zOZ ?_ | refine zDc ?_ | refine es_for2 ?_ | refine zJP ?_ | refine zJO ?_ | refine sr_r2 ?_ | refine zRK ?_ | refine zDM ?_ | refine zK6 ?_ | refine w_cl ?_ | refine w_fr ?_ | refine w_tu ?_) | ((with_reducible refine k_nx ?_);try (walk_at "s")) | (with_reducible first | refine k_rt ?_ | refine k_bk ?_ | refine k_ct ?_ | refine zUF ?_ | refine kd_nx ?_ | refine y_cl ?_ | refine y_fr ?_ | refine y_l ?_ | refine y_t ?_ | refine zKx ?_) | ((with_reducible refine zUE ?_);try (walk_at "s")) | (with_reducible first | refine kf_ct ?_ | refine kf_bk ?_ | refine kf_rt ?_ | refine fl_b ?_ | refine fl_i ?_ | refine cb_t ?_ | refine cb_f ?_ | refine zLf ?_ | refine x_bl ?_ | refine zTp ?_ | refine x_cl ?_ | refine x_fr ?_ | refine n_cl ?_ | refine n_fr ?_)
 | ((with_reducible show EvP (forD (tg1 _) _ (_::_) _) _);refine zFj rfl ?_;try (walk_at "s")) | ((with_reducible show EvP (ixD (D.lst (_::_)) (D.int _)) _);refine zA9 rfl ?_)
 | ((with_reducible show List.length _<=10000/\_);refine⟨zzb rfl,?_⟩) | ((with_reducible show EvP (evE _ (E.call _ _ _) _) _);refine zAM rfl ?_) | ((with_reducible show EvP (evE _ (E.lend _ _ _) _) _);refine ev_lend rfl ?_) | ((with_reducible show EvP (evE _ (E.glob _ _) _) _);refine zC3 rfl ?_)
 | ((with_reducible show EvP (ixD (D.tup _) (D.int _)) _);refine zDG rfl ?_) | ((with_reducible show EvP (evS _ (S.retOwn _) _) _);refine zLJ rfl ?_) | ((with_reducible show EvP (evSs _ (S.frz _ _) _) _);first | refine zHE rfl ?_ | (refine zH3 rfl ?_;try (walk_at "s"))))
local macro_rules | `(tactic| walk_at "st")=>`(tactic| simp only [map_cons,map_nil,cons_append,nil_append,replicate_succ,List.replicate_zero,Nat.reduceSub,append_nil,List.replicate])
open PySem L2 DL
local macro_rules | `(tactic| walk_at "w")=>`(tactic| (repeat walk_at "ev"))
open PySem L2 DL
local macro_rules | `(tactic| walk_at "d")=>`(tactic| refine zUZ rfl (by decide) ?_)
section
namespace DL
open PySem L2
theorem zKL :∀ (n:Nat) (a b:Int) (r:Option (D×Bool)),b.toNat<=n->0<=a->0<=b->(∀ r',Q (.nx [some (.int (Int.gcd a b:Int),false),some (.int 0,false),r'])) ->
  EvP (zBb (asB (evE J (.cmp .Gt (.var 1) (.int 0)))) (evSs J (.cons (.set 2 (.bin .Mod (.var 0) (.var 1))) (.cons (.set 0 (.var 1)) (.cons (.set 1 (.var 2)) .nil)))) [some (.int a,false),some (.int b,false),r]) Q:=by
 intro n
 induction n with
 | zero =>
  intro a b r hn ha hb q;have e:b=0:=by omega
  subst e;refine zBi (as_b ?_);(walk_at "w");refine zCQ (Int.lt_irrefl 0) ?_;have:(Int.gcd a 0:Int)=a:=by rw[Int.gcd_zero_right];omega
  rw[this] at q;exact q r
 | succ n ih =>
  intro a b r hn ha hb q;by_cases e:b=0
  .subst e;refine zBi (as_b ?_);(walk_at "w");refine zCQ (Int.lt_irrefl 0) ?_;have:(Int.gcd a 0:Int)=a:=by rw[Int.gcd_zero_right];omega
   rw[this] at q;exact q r
  .refine zBi (as_b ?_);(walk_at "w");refine zCc (show 0 < b by omega) ?_;(walk_at "w");refine zBB e ?_;(walk_at "w");have h1:=xX a (show 0 < b by omega);have h2:=fmod_lt_of_pos a (show 0 < b by omega);refine ih b (a.fmod b) (some (.int (a.fmod b),false)) (by omega) hb h1 λr'=>?_
   rw[DM.zHz ha (by omega)];exact q r'
theorem zPj (ha:0<=a)(hb:0<=b)(h:Q (.int (Int.gcd a b:Int),.cl)):EvP (dFun 2 3 (evSs J zPk) [.int a,.int b]) Q:=by
 (walk_at "d");unfold zPk
 walk_at "ev"
 walk_at "ev"
 refine zKL b.toNat a b none (le_refl _) ha hb λr'=>?_
 (walk_at "w");exact h
def zI9:S:=.cons (.ret (.andl (.cons (.isi .int (.var 0)) (.cons (.not (.isi .bool (.var 0))) .nil)))) .nil
theorem zL8 (h:Q (.bl true,.cl)):EvP (dFun 1 1 (evSs J zI9) [.int i]) Q:=by
 (walk_at "d");unfold zI9;(walk_at "w");exact h
def zLu (F:List D->Option R):Prop:=∀ (i:Int) (Q:R->Prop),Q (.bl true,.cl)->EvP (F [.int i]) Q
def zQ8 (F:List D->Option R):Prop:=∀ (a b:Int) (Q:R->Prop),0<=a->0<=b->Q (.int (Int.gcd a b:Int),.cl)->EvP (F [.int a,.int b]) Q
def zOq (nm:Nat)(f:Str):S:=.cons (.set 2 (.call nm f (.cons (.abs (.var 0)) (.cons (.abs (.var 1)) .nil)))) (.cons (.ife (.cmp .Lt (.var 1) (.int 0)) (.cons (.set 2 (.neg (.var 2))) .nil) .nil) (.cons (.ret (.tup (.cons (.bin .FloorDiv (.var 0) (.var 2)) (.cons (.bin .FloorDiv (.var 1) (.var 2)) .nil)))) .nil))
theorem zQO (t b:Int):((Int.gcd (t.natAbs:Int) (b.natAbs:Int):Nat):Int)=(Int.gcd t b:Int):=by
 unfold Int.gcd;simp only[Int.natAbs_natCast]
theorem zPi (hb:b≠0)(sb:Bd 60000000 b)(i:Int):zI8 i (DM.msr t b):=DM.zKI hb
theorem zOp (em:J.fns[nm]?=some (f,Fm))(hm:zQ8 Fm)(hb:b≠0)(sb:Bd 60000000 b)
  (h:Q (.rt (ratD (Rat.divInt t b),.cl))):EvP (evSs J (zOq nm f) [some (.int t,false),some (.int b,false),x]) Q:=by
 unfold zOq;refine zAI (zDN (zAM em ?_));(walk_at "w");refine hm _ _ _ (Int.natCast_nonneg _) (Int.natCast_nonneg _) ?_;rw[zQO];(walk_at "w");have fin:∀ g:Int,g=DM.msr t b->Q (.rt (.tup [.int (t.fdiv g),.int (b.fdiv g)],.cl)):=λg e=>by
  subst e;rw[DM.zG4 hb,DM.zKK hb];exact h
 have dv:∀ g i:Int,g=DM.msr t b->zI8 i g:=λg i e=>by subst e;exact zPi hb sb i
 refine zBE (λc=>?_) λc=>?_
 .have e:(-(Int.gcd t b:Int))=DM.msr t b:=by unfold DM.msr;rw[if_pos c]
  (walk_at "w");refine zCM (dv _ _ e) ?_;(walk_at "w");refine zCM (dv _ _ e) ?_;(walk_at "w");exact fin _ e
 .have e:(Int.gcd t b:Int)=DM.msr t b:=by unfold DM.msr;rw[if_neg c]
  (walk_at "w");refine zCM (dv _ _ e) ?_;(walk_at "w");refine zCM (dv _ _ e) ?_;(walk_at "w");exact fin _ e
def zE9 (F:List D->Option R):Prop:=∀ (t b:Int) (Q:R->Prop),b≠0->Bd 60000000 b->Q (ratD (Rat.divInt t b),.cl)->EvP (F [.int t,.int b]) Q
def zN1 (nm:Nat)(x:S):S:=.cons (.ife (.cmp .Eq (.var 1) (.int 0)) (.cons x .nil) .nil) (zOq nm "common_measure")
theorem zMO (em:J.fns[nm]?=some (("common_measure":Str),Fm))(hm:zQ8 Fm):zE9 (dFun 2 3 (evSs J (zN1 nm x))):=λt b Q hb sb h=>by
 (walk_at "d");unfold zN1;(walk_at "w");refine zCQ hb ?_;(walk_at "w");exact zOp em hm hb sb h
noncomputable def cel (ns:List Int)(k:Int):Int :=
 if k < (ns.length:Int) then ns.getD k.toNat 0 else
  let seed:=if (0:Int) < (ns.length:Int) then k*7919+(ns.getD (k.fmod (ns.length:Int)).toNat 0).fmod 65537 else k*7919
  let some:=(seed*48271).fmod 65537
  ((some*(some+2*k+1)).fdiv 7).fmod 65521
def zQx:S:=.cons (.ife (.cmp .Lt (.var 1) (.len (.var 0))) (.cons (.ret (.ix (.var 0) (.var 1))) .nil) .nil) (.cons (.set 2 (.bin .Mult (.var 1) (.int 7919))) (.cons (.ife (.cmp .Gt (.len (.var 0)) (.int 0)) (.cons (.set 2 (.bin .Add (.var 2) (.bin .Mod (.ix (.var 0) (.bin .Mod (.var 1) (.len (.var 0)))) (.int 65537)))) .nil) .nil) (.cons (.set 3 (.bin .Mod (.bin .Mult (.var 2) (.int 48271)) (.int 65537))) (.cons (.ret (.bin .Mod (.bin .FloorDiv (.bin .Mult (.var 3) (.bin .Add (.bin .Add (.var 3) (.bin .Mult (.int 2) (.var 1))) (.int 1))) (.int 7)) (.int 65521))) .nil))))
def scr (ns:List Int):D:=.lst (ns.map D.int)
theorem zHd {ns:List Int}(h0:0<=k)(h1:k < (ns.length:Int)):atI (ns.map D.int) k=some (.int (ns.getD k.toNat 0)):=by
 have hk:k.toNat < ns.length:=by omega
 have ek:k=((k.toNat:Nat):Int):=by omega
 have q:atI (ns.map D.int) ((k.toNat:Nat):Int)=some (.int (ns.getD k.toNat 0)):=zAn (by
  rw[List.getElem?_map,getElem?_eq_getElem hk,getD_eq_getElem?_getD,getElem?_eq_getElem hk]
  rfl)
 rw[<- ek] at q;exact q
def zTn (F:List D->Option R):Prop:=∀ (ns:List Int) (k:Int) (Q:R->Prop),0<=k->Q (.int (cel ns k),.cl)->EvP (F [scr ns,.int k]) Q
theorem zF1 (x:Int)(h0:0 < m)(h1:m < 2^64):(x.fmod m).natAbs < 2^64:=by
 have a:=xX x h0;have b:=fmod_lt_of_pos x h0;omega
theorem zBZ (h:j≠0)(h2:j.natAbs < 2^64):zI8 i j:=h
theorem zQw :zTn (dFun 2 4 (evSs J zQx)):=λns k Q h0 h=>by
 (walk_at "d");unfold zQx;have el:((ns.map D.int).length:Int)=(ns.length:Int):=by rw[qy]
 refine zAI (zEU (zBq (zAH rfl (zB5 (zAH rfl ?_)))));show EvP (lenD (.lst (ns.map D.int))) _;(walk_at "w");rw[el];refine zBE (λc=>?_) λc=>?_
 .refine zAI (zBr (zBY (zAH rfl (zAH rfl ?_))));show EvP (ixD (.lst (ns.map D.int)) (.int k)) _;refine zA9 (zHd h0 c) ?_;have e:cel ns k=ns.getD k.toNat 0:=by unfold cel;rw[if_pos c]
  rw[e] at h;(walk_at "w");exact h
 .unfold cel at h;rw[if_neg c] at h;(walk_at "w");refine zBA (zEq (by decide)) ?_;(walk_at "w");refine(show EvP (lenD (.lst (ns.map D.int))) _ from ?_);(walk_at "w");rw[el];refine zBE (λc2=>?_) λc2=>?_
  .rw [if_pos c2] at h;(walk_at "w");refine(show EvP (lenD (.lst (ns.map D.int))) _ from ?_);(walk_at "w");rw[el];refine zBB (by omega) ?_;refine(show EvP (ixD (.lst (ns.map D.int)) (.int (k.fmod (ns.length:Int)))) _ from ?_);refine zA9 (zHd (xX k c2) (fmod_lt_of_pos k c2)) ?_;(walk_at "w");refine zBB (by decide) ?_;(walk_at "w");refine zBA (zEq (by decide)) ?_;(walk_at "w");refine zBB (by decide) ?_;(walk_at "w");refine zBA (zCu (by decide)) ?_;(walk_at "w");refine zBA (zCu (zF1 _ (by decide) (by decide))) ?_;(walk_at "w");refine zCM (zBZ (by decide) (by decide)) ?_;(walk_at "w");refine zBB (by decide) ?_;(walk_at "w");exact h
  .rw [if_neg c2] at h;(walk_at "w");refine zBA (zEq (by decide)) ?_;(walk_at "w");refine zBB (by decide) ?_;(walk_at "w");refine zBA (zCu (by decide)) ?_;(walk_at "w");refine zBA (zCu (zF1 _ (by decide) (by decide))) ?_;(walk_at "w");refine zCM (zBZ (by decide) (by decide)) ?_;(walk_at "w");refine zBB (by decide) ?_;(walk_at "w");exact h
theorem zCY (h:i.natAbs<=k)(h2:k < 2^n):Bd n i:=Nat.lt_of_le_of_lt h h2
mutual
theorem zIA:∀ d:D,PyData.eqv (toPy d) (toPy d)=true
 | .non=>by simp[toPy,PyData.eqv]
 | .bl b=>by simp[toPy,PyData.eqv]
 | .int i=>by simp[toPy,PyData.eqv]
 | .str x=>by simp[toPy,PyData.eqv]
 | .tup ds=>by
  rw[toPy,PyData.eqv];exact eqbL_self ds
 | .lst ds=>by
  rw[toPy,PyData.eqv];exact eqbL_self ds
 | .exc _=>by simp[toPy,PyData.eqv]
 | .dct _=>by simp[toPy,PyData.eqv]
 | .lam _ _ _=>by simp[toPy,PyData.eqv]
 | .obj _ _ _=>by simp[toPy,PyData.eqv]
 | .fn _ _=>by simp[toPy,PyData.eqv]
theorem eqbL_self:∀ ds:List D,PyData.eqvAll (toPyL ds) (toPyL ds)=true
 | []=>by simp[toPyL,PyData.eqvAll]
 | d::ds=>by
  rw[toPyL,PyData.eqvAll,zIA d,eqbL_self ds]
  rfl
end
theorem zD2 (d:D):eqb d d=true:=zIA d
def DOk (k:Nat)(d:D):Prop:=(toPy d).canLay0=true/\(toPy d).depth<=k
theorem zLY (i:Int):DOk k (.int i):=⟨by simp[toPy,PyData.canLay0],by simp[toPy,PyData.depth]⟩
theorem zHM :∀ {ds:List D},(∀ d∈ds,DOk k d)->PyData.canLayAll0 (toPyL ds)=true/\PyData.depthAll (toPyL ds)<=k
 | [],_=>⟨by simp[toPyL,PyData.canLayAll0],by simp[toPyL,PyData.depthAll]⟩
 | d::ds,h=>by
  have h1:=h d q8;have h2:=zHM (ds:=ds) λx z=>h x (qJ _ z)
  refine⟨by simp[toPyL,PyData.canLayAll0,h1.1,h2.1],?_⟩;simp only[toPyL,PyData.depthAll];exact Nat.max_le.mpr ⟨h1.2,h2.2⟩
theorem zHK (h:∀ d∈ds,DOk k d):DOk (k+1) (.tup ds):=by
 obtain⟨h1,h2⟩:=zHM h;exact⟨by simp[toPy,PyData.canLay0,h1],by simp only[toPy,PyData.depth];omega⟩
theorem zLX (h:∀ d∈ds,DOk k d):DOk (k+1) (.lst ds):=by
 obtain⟨h1,h2⟩:=zHM h;exact⟨by simp[toPy,PyData.canLay0,h1],by simp only[toPy,PyData.depth];omega⟩
theorem zHL (q:Rat):DOk 1 (ratD q):=zHK (k:=0) λd h=>by
 rcases mem_cons.mp h with rfl | h
 .exact zLY _
 .rcases mem_cons.mp h with rfl | h
  .exact zLY _
  .exact absurd h (by simp)
theorem zHJ (hx:DOk m x)(hy:DOk n y)(hm:m<=64):EqOk x y:=⟨hx.1,hy.1,le_trans hx.2 hm⟩
theorem zLL (p q:Rat):eqb (ratD p) (ratD q)=decide (p=q):=by
 by_cases h:p=q
 .subst h;rw[zD2,decide_eq_true rfl]
 .rw [decide_eq_false h];unfold eqb ratD;simp only[toPy,toPyL,PyData.eqv,PyData.eqvAll];cases e:(p.num==q.num&&(((p.den:Int)==(q.den:Int))&&true)) with
  | false=>rfl
  | true =>
   simp only[Bool.and_true,x9,beq_iff_eq] at e;exact absurd (Rat.ext e.1 (by have:=e.2;omega)) h
def zPD (nm:Str)(nr:Nat):S:=.cons (.ret (.call nr nm (.cons (.bin .Add (.bin .Mult (.ix (.var 0) (.int 0)) (.ix (.var 1) (.int 1))) (.bin .Mult (.ix (.var 1) (.int 0)) (.ix (.var 0) (.int 1)))) (.cons (.bin .Mult (.ix (.var 0) (.int 1)) (.ix (.var 1) (.int 1))) .nil)))) .nil
def zEr (nm:Str)(nr:Nat):S:=.cons (.ret (.call nr nm (.cons (.bin .Sub (.bin .Mult (.ix (.var 0) (.int 0)) (.ix (.var 1) (.int 1))) (.bin .Mult (.ix (.var 1) (.int 0)) (.ix (.var 0) (.int 1)))) (.cons (.bin .Mult (.ix (.var 0) (.int 1)) (.ix (.var 1) (.int 1))) .nil)))) .nil
def zEi (nm:Str)(nr:Nat):S:=.cons (.ret (.call nr nm (.cons (.bin .Mult (.ix (.var 0) (.int 0)) (.ix (.var 1) (.int 0))) (.cons (.bin .Mult (.ix (.var 0) (.int 1)) (.ix (.var 1) (.int 1))) .nil)))) .nil
noncomputable def zGz (nm:Str)(nr:Nat):S:=.cons (.ret (.call nr nm (.cons (.bin .Mult (.ix (.var 0) (.int 0)) (.ix (.var 1) (.int 1))) (.cons (.bin .Mult (.ix (.var 0) (.int 1)) (.ix (.var 1) (.int 0))) .nil)))) .nil
def OpF (f:Rat->Rat->Rat)(F:List D->Option R):Prop:=∀ (p q:Rat) (m n:Nat) (Q:R->Prop),RB m p->RB n q->m+n<=60000000->Q (ratD (f p q),.cl)->EvP (F [ratD p,ratD q]) Q
abbrev zI6:=OpF (·+·)
abbrev zDo:=OpF (· - ·)
abbrev zDn:=OpF (·*·)
def zFt (F:List D->Option R):Prop:=∀ (p q:Rat) (m n:Nat) (Q:R->Prop),q≠0->RB m p->RB n q->m+n<=60000000->Q (ratD (p / q),.cl)->EvP (F [ratD p,ratD q]) Q
theorem zBQ (h1:Bd m i)(h2:Bd n j)(h3:m+n<=60000000):IntMulOk i j:=zT6 h1 h2 (le_trans h3 (by decide))
section
variable {J:Gm}{nm:Str}{nr:Nat}{Fr:List D->Option R}
theorem zPC (er:J.fns[nr]?=some (nm,Fr))(hr:zE9 Fr):zI6 (dFun 2 2 (evSs J (zPD nm nr))):=λp q m n Q hp hq l h=>by
 (walk_at "d");unfold zPD;refine zAI (zBr (zAM er ?_));(walk_at "w");refine zBA (zBQ hp.num hq.den l) ?_;(walk_at "w");refine zBA (zBQ hq.num hp.den (by omega)) ?_;(walk_at "w");refine zBA (zBQ hp.den hq.den l) ?_;(walk_at "w");refine hr _ _ _ (zDj (zBK p) (zBK q)) ((zBt hp.den hq.den).mono l) ?_;rw[<- zOj];(walk_at "w");exact h
theorem zMd (er:J.fns[nr]?=some (nm,Fr))(hr:zE9 Fr):zDo (dFun 2 2 (evSs J (zEr nm nr))):=λp q m n Q hp hq l h=>by
 (walk_at "d");unfold zEr;refine zAI (zBr (zAM er ?_));(walk_at "w");refine zBA (zBQ hp.num hq.den l) ?_;(walk_at "w");refine zBA (zBQ hq.num hp.den (by omega)) ?_;(walk_at "w");refine zBA (zBQ hp.den hq.den l) ?_;(walk_at "w");refine hr _ _ _ (zDj (zBK p) (zBK q)) ((zBt hp.den hq.den).mono l) ?_;rw[<- zJL];(walk_at "w");exact h
theorem zME (er:J.fns[nr]?=some (nm,Fr))(hr:zE9 Fr):zDn (dFun 2 2 (evSs J (zEi nm nr))):=λp q m n Q hp hq l h=>by
 (walk_at "d");unfold zEi;refine zAI (zBr (zAM er ?_));(walk_at "w");refine zBA (zBQ hp.num hq.num l) ?_;(walk_at "w");refine zBA (zBQ hp.den hq.den l) ?_;(walk_at "w");refine hr _ _ _ (zDj (zBK p) (zBK q)) ((zBt hp.den hq.den).mono l) ?_;rw[<- zKG];(walk_at "w");exact h
theorem zJt (er:J.fns[nr]?=some (nm,Fr))(hr:zE9 Fr):zFt (dFun 2 2 (evSs J (zGz nm nr))):=λp q m n Q hz hp hq l h=>by
 (walk_at "d");unfold zGz;refine zAI (zBr (zAM er ?_));(walk_at "w");refine zBA (zBQ hp.num hq.den l) ?_;(walk_at "w");refine zBA (zBQ hp.den hq.num l) ?_;(walk_at "w");refine hr _ _ _ (zDj (zBK p) (zOH hz)) ((zBt hp.den hq.num).mono l) ?_;rw[<- zOb];(walk_at "w");exact h
end
theorem zL6:D.tup [.int 0,.int 1]=ratD 0:=rfl
theorem zPU:D.tup [.int 1,.int 1]=ratD 1:=rfl
theorem zMw:D.tup [.int 1,.int 2]=ratD (1 / 2):=by
 unfold ratD;rw[show (1 / 2:Rat).num=1 from by decide +kernel,show (1 / 2:Rat).den=2 from by decide +kernel]
 rfl
inductive WB:List Rat->Nat->Prop
 | nil:WB [] 0
 | cons {q:Rat} {m W:Nat} {qs:List Rat}:RB m q->WB qs W->WB (q::qs) (m+1+W)
theorem zNr:∀ {qs:List Rat} {W:Nat},WB qs W->RB (W+1) (DM.sumR qs)
 | [],_,.nil=>⟨by unfold Bd;decide,by unfold Bd;decide⟩
 | _::_,_,.cons h t=>(zD9 h (zNr t)).mono (by omega)
theorem zJA:∀ {qs:List Rat} {W:Nat},WB qs W->WB (DM.nadd qs) W
 | [],_,.nil=>.nil
 | [_],_,.cons h .nil=>.cons h .nil
 | a::b::r,_,.cons (m:=m) h (.cons (m:=n) (W:=W) k t)=>by
  have e:m+1+(n+1+W)=(m+n+1)+1+W:=by omega
  rw[e];exact .cons (zD9 h k) (zJA t)
theorem zNq:∀ {qs:List Rat} {W i:Nat} {a b:Rat},WB qs W->qs[i]?=some a->qs[i+1]?=some b->∃ m n,RB m a/\RB n b/\m+n+2<=W
 | [],_,_,_,_,_,h,_=>by simp at h
 | [_],_,_,_,_,_,_,h=>by simp at h
 | x::y::r,_,0,a,b,.cons (m:=m) h (.cons (m:=n) k t),h1,h2=>by
  simp at h1 h2;subst h1 h2;exact⟨m,n,h,k,by omega⟩
 | x::y::r,_,i+1,a,b,.cons h t,h1,h2=>by
  obtain⟨m,n,q1,q2,q3⟩:=zNq (i:=i) t (by simpa using h1) (by simpa using h2);exact⟨m,n,q1,q2,by omega⟩
theorem zNs :∀ {qs:List Rat},(∀ q∈qs,RB n q)->WB qs (qs.length*(n+1))
 | [],_=>by rw[length_nil,Nat.zero_mul];exact .nil
 | q::qs,h=>by
  rw[xY,Nat.succ_mul,Nat.add_comm];exact .cons (h q q8) (zNs λx z=>h x (qJ _ z))
noncomputable def zPf (np:Nat):S:=.cons (.setC 1 (.comp1 2 [] "k" (.r3 (.int 0) (.bin .Sub (.len (.var 0)) (.int 1)) (.int 2)) .nil (.call np "plus" (.cons (.ix (.var 0) (.var 2)) (.cons (.ix (.var 0) (.bin .Add (.var 2) (.int 1))) .nil))))) (.cons (.ife (.cmp .Eq (.bin .Mod (.len (.var 0)) (.int 2)) (.int 1)) (.cons (.app 1 (.ix (.var 0) (.neg (.int 1)))) .nil) .nil) (.cons (.retOwn 1) .nil))
def zJE (nn ng:Nat):S:=.cons (.set 1 (.list (.var 0))) (.cons (.whl (.cmp .Gt (.len (.var 1)) (.int 1)) (.frz 1 (.cons (.set 1 (.call nn "neighbours_added" (.cons (.var 1) .nil))) .nil))) (.cons (.ret (.ite (.cmp .Eq (.len (.var 1)) (.int 1)) (.ix (.var 1) (.int 0)) (.glob ng "NOUGHT"))) .nil))
def zCp (qs:List Rat):D:=.lst (qs.map ratD)
theorem zJg {qs:List Rat}{i:Nat}(h:qs[i]?=some q):atI (qs.map ratD) (i:Int)=some (ratD q):=zAn (by rw[List.getElem?_map,h];rfl)
theorem zKh (n:Nat):(Builtin.Range.rangeSize 0 ((n:Int) - 1) 2).toNat=n / 2:=by
 unfold Builtin.Range.rangeSize;simp only[show (2:Int)>0 by decide,if_true];split<;>omega
theorem zP0 {n:Nat}(h:n<=10000):ROk 0 ((n:Int) - 1) 2:=by
 refine⟨by decide,by decide,?_⟩;unfold Builtin.Range.small Builtin.Range.rangeSize;simp only[Builtin.Range.rangeFitsLong,x9,Bool.or_eq_true,qj,beq_iff_eq,show (2:Int)>0 by decide,if_true];split<;>omega
def zNp (F:List D->Option R):Prop:=∀ (qs:List Rat) (W:Nat) (Q:R->Prop),WB qs W->W<=60000000->qs.length<=10000->Q (zCp (DM.nadd qs),.fr)->EvP (F [zCp qs]) Q
def zRo (qs:List Rat):D->D
 | .int k=>ratD (qs.getD k.toNat 0+qs.getD (k.toNat+1) 0)
 | d=>d
theorem zKt {qs:List Rat}(h:qs[i]?=some q):qs.getD i 0=q:=by rw[getD_eq_getElem?_getD,h];rfl
theorem zPe (ep:J.fns[np]?=some (("plus":Str),Fp))(hp:zI6 Fp):zNp (dFun 1 2 (evSs J (zPf np))):=λqs W Q wb hW hl h=>by
 (walk_at "d");unfold zPf;(walk_at "st");refine zAI (zHI (zDM (zRK ?_)));have el:((qs.map ratD).length:Int)=(qs.length:Int):=by rw[qy]
 walk_at "ev"
 refine zAc (zB5 (zAH rfl ?_));refine(show EvP (lenD (.lst (qs.map ratD))) _ from ?_);(walk_at "w");rw[el];refine⟨_,_,_,rfl,rfl,rfl,zP0 hl,?_⟩;rw[zKh];have ln:(rngS 0 2 (qs.length / 2)).length<=10000:=by unfold rngS;rw[qy,length_range];omega
 refine⟨ln,?_⟩;show EvP (zBn (tg1 2) (evC J .nil) _ _ ([some (zCp qs,false),none]++[none])) _;refine zE1 (n:=2) (base:=[some (zCp qs,false),none]) rfl (zRo qs) _ _ (λz hz=>?_) ?_
 .unfold rngS at hz;obtain⟨i,hi,rfl⟩:=mem_map.mp hz;have hi':=mem_range.mp hi;have h1:2*i < qs.length:=by omega
  have h2:2*i+1 < qs.length:=by omega
  have e1:qs[2*i]?=some qs[2*i]:=by simp[h1]
  have e2:qs[2*i+1]?=some qs[2*i+1]:=by simp[h2]
  obtain⟨m,n,r1,r2,r3⟩:=zNq wb e1 e2;have ek:(0:Int)+(i:Int)*2=((2*i:Nat):Int):=by omega
  have ek2:((2*i:Nat):Int)+1=((2*i+1:Nat):Int):=by omega
  rw[ek];refine zAM ep (zAD (zBY (zAH rfl (zAH rfl ?_))));refine zA9 (zJg e1) ?_;(walk_at "w");rw[ek2];refine(show EvP (ixD (.lst (qs.map ratD)) (.int ((2*i+1:Nat):Int))) _ from ?_);refine zA9 (zJg e2) ?_;(walk_at "w");refine hp _ _ m n _ r1 r2 (by omega) ?_;(walk_at "w");show _=ratD _;rw[toNat_natCast,zKt e1,zKt e2]
 .have em:(rngS 0 2 (qs.length / 2)).map (zRo qs)=((List.range (qs.length / 2)).map λi=>qs.getD (2*i) 0+qs.getD (2*i+1) 0).map ratD:=by
   unfold rngS;rw[map_map,map_map];refine map_congr_left λi _=>?_
   show ratD _=ratD _;rw[show ((0:Int)+(i:Int)*2).toNat=2*i by omega]
  rw[em];have fin:=DM.zKF qs;(walk_at "w");refine(show EvP (lenD (.lst (qs.map ratD))) _ from ?_);(walk_at "w");rw[el];refine zBB (by decide) ?_;(walk_at "w");refine zBE (λc=>?_) λc=>?_
  .have c':qs.length%2=1:=by
    rw[Int.fmod_eq_emod_of_nonneg _ (by decide)] at c;omega
   rw[if_pos c'] at fin;refine zAI (zEV rfl (by rw[qy,qy,length_range];omega) ?_);(walk_at "w");have hlast:qs[qs.length - 1]?=some (qs.getD (qs.length - 1) 0):=by
    have:qs.length - 1 < qs.length:=by omega
    rw[getD_eq_getElem?_getD];simp[this]
   have at1:atI (qs.map ratD) (-1)=some (ratD (qs.getD (qs.length - 1) 0)):=by
    unfold L2.atI;have ei:ixN (qs.map ratD).length (-1)=some (qs.length - 1):=by
     unfold L2.ixN;rw[qy];split<;>first | omega | (split<;>first | omega | (congr 1;omega)) | (congr 1;omega)
    rw[ei];show (qs.map ratD)[qs.length - 1]?=_;rw[List.getElem?_map,hlast]
    rfl
   refine(show EvP (ixD (.lst (qs.map ratD)) (.int (-1))) _ from ?_);refine zA9 at1 ?_;(walk_at "w");have e3:List.map ratD ((List.range (qs.length / 2)).map λi=>qs.getD (2*i) 0+qs.getD (2*i+1) 0)++[ratD (qs.getD (qs.length - 1) 0)]=(DM.nadd qs).map ratD:=by
    rw[<- fin,xJ];rfl
   rw[e3];exact h
  .have c':¬ qs.length%2=1:=λz=>c (by
    rw[Int.fmod_eq_emod_of_nonneg _ (by decide)];omega)
   rw[if_neg c',append_nil] at fin;(walk_at "w");rw[fin];exact h
def zLv (F:List D->Option R):Prop:=∀ (qs:List Rat) (W:Nat) (Q:R->Prop),WB qs W->W<=60000000->qs.length<=10000->Q (ratD (DM.sumR qs),.cl)->EvP (F [zCp qs]) Q
theorem zIU (en:J.fns[nn]?=some (("neighbours_added":Str),Fn))(hn:zNp Fn):∀ (n:Nat) (qs:List Rat) (W:Nat) (o:Bool),qs.length<=n->WB qs W->W<=60000000->qs.length<=10000 ->
    (∀ qs' o,DM.sumR qs'=DM.sumR qs->qs'.length<=1->(qs.length=0<->qs'.length=0)->Q (.nx [x0,some (zCp qs',o)])) ->
    EvP (zBb (asB (evE J (.cmp .Gt (.len (.var 1)) (.int 1)))) (evSs J (.frz 1 (.cons (.set 1 (.call nn "neighbours_added" (.cons (.var 1) .nil))) .nil))) [x0,some (zCp qs,o)]) Q:=by
  intro n
  induction n with
  | zero =>
    intro qs W o hl wb hW hl2 q;have e:qs=[]:=List.eq_nil_of_length_eq_zero (by omega);subst e;refine zBi (as_b ?_);refine zBq (zB5 (zH4 rfl ?_));refine(show EvP (lenD (.lst [])) _ from ?_);(walk_at "w");refine zCQ (by simp) ?_;exact q [] o rfl (by simp) (by simp)
  | succ n ih =>
    intro qs W o hl wb hW hl2 q;refine zBi (as_b ?_);refine zBq (zB5 (zH4 rfl ?_));refine(show EvP (lenD (.lst (qs.map ratD))) _ from ?_);(walk_at "w");rw[qy];by_cases c:1 < qs.length
    . refine zCc (by omega) ?_;have go:EvP (evSs J (.cons (.set 1 (.call nn "neighbours_added" (.cons (.var 1) .nil))) .nil) [x0,some (zCp qs,false)]) λo=>match o with
          | .nx G'=>EvP (zBb (asB (evE J (.cmp .Gt (.len (.var 1)) (.int 1)))) (evSs J (.frz 1 (.cons (.set 1 (.call nn "neighbours_added" (.cons (.var 1) .nil))) .nil))) G') Q
          | .ct G'=>EvP (zBb (asB (evE J (.cmp .Gt (.len (.var 1)) (.int 1)))) (evSs J (.frz 1 (.cons (.set 1 (.call nn "neighbours_added" (.cons (.var 1) .nil))) .nil))) G') Q
          | .bk G'=>Q (.nx G')
          | .rt r=>Q (.rt r):=by
        refine zAI (zDN (zAM en ?_));(walk_at "w");refine hn qs W _ wb hW hl2 ?_;(walk_at "w");have l2:=DM.zHs qs;refine ih (DM.nadd qs) W true (by omega) (zJA wb) hW (by omega) λqs' o e1 e2 e3=>?_
        exact q qs' o (e1.trans (DM.zHr qs)) e2 ⟨λz=>absurd z (by omega),λz=>absurd (e3.mpr z) (by omega)⟩
      cases o with
      | true=>exact zH3 rfl go
      | false=>exact zHE rfl go
    . refine zCQ (by omega) ?_;exact q qs o rfl (by omega) Iff.rfl
theorem zMD (en:J.fns[nn]?=some (("neighbours_added":Str),Fn))(hn:zNp Fn)(eg:J.cs[ng]?=some (("NOUGHT":Str),.tup [.int 0,.int 1])):zLv (dFun 1 2 (evSs J (zJE nn ng))):=λqs W Q wb hW hl h=>by
 (walk_at "d");unfold zJE;(walk_at "st");refine zAI (zDN (zFk (zAH rfl ?_)));refine(show EvP (zIl (.lst (qs.map ratD))) _ from ?_);(walk_at "w");refine zIU en hn qs.length qs W true (le_refl _) wb hW hl λqs' o e1 e2 e3=>?_
 refine k_nx ?_;refine zAI (zBr (zOX (zBq (zB5 (zH4 rfl ?_)))));refine(show EvP (lenD (.lst (qs'.map ratD))) _ from ?_);(walk_at "w");rw[qy];rw[<- e1] at h
 match qs',e2 with
 | [],_ =>
  refine zCQ (by simp) ?_;refine zC3 eg ?_;rw[zL6];(walk_at "w");exact h
 | [a],_ =>
  refine zCc (by simp) ?_;refine zBY (zH4 rfl ?_);(walk_at "w");refine(show EvP (ixD (.lst [ratD a]) (.int 0)) _ from ?_);(walk_at "w");have e4:DM.sumR [a]=a:=by simp only[DM.sumR,Rat.add_zero]
  rw[e4] at h;exact h
 | _::_::_,z=>exact absurd z (by simp)
abbrev Pt:=DM.Pt
noncomputable def ptD (p:Pt):D:=.tup [ratD p.1,ratD p.2]
def zCB (s:Pt×Pt):D:=.tup [ptD s.1,ptD s.2]
def zF9 (ps:List Pt):D:=.lst (ps.map ptD)
def PB (n:Nat)(p:Pt):Prop:=RB n p.1/\RB n p.2
theorem i_p0 (h:Q (ratD p.1,.cl)):EvP (ixD (ptD p) (.int 0)) Q:=zDG rfl h
theorem i_p1 (h:Q (ratD p.2,.cl)):EvP (ixD (ptD p) (.int 1)) Q:=zDG rfl h
theorem i_s0 (h:Q (ptD s.1,.cl)):EvP (ixD (zCB s) (.int 0)) Q:=zDG rfl h
theorem i_s1 (h:Q (ptD s.2,.cl)):EvP (ixD (zCB s) (.int 1)) Q:=zDG rfl h
theorem zLW (p:Pt):DOk 2 (ptD p):=zHK λd h=>by
 rcases mem_cons.mp h with rfl | h
 .exact zHL _
 .rcases mem_cons.mp h with rfl | h
  .exact zHL _
  .exact absurd h (by simp)
theorem zNY (ps:List Pt):DOk 3 (zF9 ps):=zLX λd h=>by
 obtain⟨p,_,rfl⟩:=mem_map.mp h;exact zLW p
theorem zUd (hd:DOk k d)(hk:k<=64)(h:Q (.bl false,.cl)):EvP (cmpD .NotEq d d) Q:=c_ne (zHJ hd hd hk) (by rw[zD2];exact h)
theorem zIF (xs:List D)(k:Nat):cutD xs (some (k:Int)) none=xs.drop k:=by
 unfold cutD;rw[HT.zJY,HT.zHf];by_cases h:k<=xs.length
 .rw [Nat.min_eq_left h,take_of_length_le (by rw[length_drop];exact le_refl _)]
 .rw [Nat.min_eq_right (by omega),List.drop_length,List.take_nil,drop_eq_nil_of_le (by omega)]
theorem zTZ (xs:List D)(k:Nat):cutD xs none (some (k:Int))=xs.take k:=by
 unfold cutD;rw[HT.zJY,HT.zHf,List.drop_zero,Nat.sub_zero];by_cases h:k<=xs.length
 .rw [Nat.min_eq_left h]
 .rw [Nat.min_eq_right (by omega),take_of_length_le (le_refl _),take_of_length_le (by omega)]
theorem zL5 (as bs:List Pt):zipT (as.map ptD) (bs.map ptD)=(as.zip bs).map zCB:=by
 unfold zipT;rw[List.zipWith_map,List.zip_eq_zipWith,List.map_zipWith]
 rfl
def zJT:S:=.cons (.ret (.lzip (.var 0) (.bin .Add (.sl (.var 0) (.cons (.int 1) .nil) .nil) (.sl (.var 0) .nil (.cons (.int 1) .nil))))) .nil
def zLy (F:List D->Option R):Prop:=∀ (ps:List Pt) (Q:R->Prop),ps.length<=9000->Q (.lst ((DM.zBF ps).map zCB),.fr)->EvP (F [zF9 ps]) Q
theorem zMH :zLy (dFun 1 1 (evSs J zJT)):=λps Q hl h=>by
 (walk_at "d");unfold zJT;refine zAI (zBr (zK6 (zAH rfl (zAc (zQa (zAH rfl ?_))))));(walk_at "w");refine⟨ps.map ptD,rfl,?_⟩;refine zQa (zAH rfl ?_);(walk_at "w");refine⟨ps.map ptD,rfl,?_⟩;have e1:cutD (ps.map ptD) (some 1) none=(ps.drop 1).map ptD:=by rw[show (1:Int)=((1:Nat):Int) from rfl,zIF,List.map_drop]
 have e2:cutD (ps.map ptD) none (some 1)=(ps.take 1).map ptD:=by rw[show (1:Int)=((1:Nat):Int) from rfl,zTZ,List.map_take]
 rw[e1,e2];refine zNi (by rw[qy,qy,length_drop,length_take];omega) ?_;rw[<- xJ];refine zTo ⟨?_,?_⟩ ?_
 .rw [qy,qy];exact(DM.zJa ps).symm
 .rw [qy];omega
 .have e3:zipT (ps.map ptD) ((ps.drop 1++ps.take 1).map ptD)=(DM.zBF ps).map zCB:=zL5 ps _;rw[e3];(walk_at "w");exact h
theorem zGw:RB 2 (1 / 2:Rat):=⟨by unfold Bd;decide +kernel,by unfold Bd;decide +kernel⟩
theorem zEN (i:Int):D.tup [.int i,.int 1]=ratD (i:Rat):=rfl
theorem zAt (lo:Int)(n:Nat):(rngL lo n).length=n:=by unfold rngL;simp
theorem zLb {U:Type}{J:Gm}{n:Nat}{el:E}{base:Dst}{Q:List D->Prop}(hn:base.length=n)(enc g:U->D):∀ (xs:List U) (o:Option (D×Bool)),(∀ x∈xs,EvP (evE J el (base++[some (enc x,false)])) λr=>r.2≠.dt/\r.1=g x)->Q (xs.map g)->EvP (zBn (tg1 n) (evC J .nil) (evE J el) (xs.map enc) (base++[o])) Q
 | [],o,_,h=>⟨_,rfl,h⟩
 | z::zs,o,hz,h=>by
  obtain⟨r,e,nd,er⟩:=hz z q8;obtain⟨ys,e2,q⟩:=zLb (Q:=λys=>Q (g z::ys)) hn enc g zs (some (enc z,false)) (λy hy=>hz y (qJ _ hy)) h;refine⟨_,?_,q⟩;have es:(base++[o]).set n (some (enc z,false))=base++[some (enc z,false)]:=by
   rw[set_append_right _ _ (by omega),hn,sub_self];rfl
  show (tg1 n (enc z) (base++[o])).bind _=_;unfold tg1;rw[es,qx,zDb,qx,if_pos rfl,e,qx,if_neg nd,er];show (zBn _ _ _ (zs.map enc) (base++[some (enc z,false)])).bind _=_;unfold tg1 at e2;rw[zDb] at e2;rw[e2]
  rfl
def zBj (rs:List (List Pt)):D:=.lst (rs.map zF9)
theorem zLV (rs:List (List Pt)):DOk 4 (zBj rs):=zLX λd h=>by
 obtain⟨p,_,rfl⟩:=mem_map.mp h;exact zNY p
theorem zCx:RB 1 0:=⟨by unfold Bd;decide,by unfold Bd;decide⟩
theorem zDe:RB 1 1:=⟨by unfold Bd;decide,by unfold Bd;decide⟩
theorem PB.x (h:PB n p):RB n p.1:=h.1
theorem PB.y (h:PB n p):RB n p.2:=h.2
theorem PB.mono (h:PB m p)(l:m<=n):PB n p:=⟨h.1.mono l,h.2.mono l⟩
abbrev Ln:=DM.Ln
end DL
end
open PySem L2 DL
local macro_rules | `(tactic| walk_at "rb")=>`(tactic| first
 | assumption | exact zCx | exact zDe | exact zGw | exact PB.x (by assumption) | exact PB.y (by assumption) | exact LB.a (by assumption) | exact LB.b (by assumption) | exact LB.c (by assumption)
 | with_reducible apply zD9 | with_reducible apply zCt | with_reducible apply zDf | with_reducible apply rb_neg | (with_reducible apply zGv;assumption))
section
namespace DL
open PySem L2
theorem zRz (h:OpF f F)(h1:RB m p)(h2:RB n q)(h3:m+n<=60000000)(h4:Q (ratD (f p q),.cl)):EvP (F [ratD p,ratD q]) Q:=h p q m n Q h1 h2 h3 h4
theorem zJu (h:zFt F)(h0:q≠0)(h1:RB m p)(h2:RB n q)(h3:m+n<=60000000)(h4:Q (ratD (p / q),.cl)):EvP (F [ratD p,ratD q]) Q:=h p q m n Q h0 h1 h2 h3 h4
end DL
end
open PySem L2 DL
local macro_rules | `(tactic| walk_at "ev")=>`(tactic| first
 | (with_reducible first | refine c_eq0 ?_ | refine wr_cl ?_ | refine wr_fr ?_ | refine i_p0 ?_ | refine i_p1 ?_ | refine i_s0 ?_ | refine i_s1 ?_ | refine i_l0 ?_ | refine i_l1 ?_ | refine i_l2 ?_ | refine l_ring ?_ | refine t_ring ?_ | refine is_tp ?_ | refine is_tl ?_ | refine is_lr ?_ | refine l_pt ?_ | refine l_ln ?_ | refine c_eqRat ?_ | refine c_neRat ?_)
 | ((with_reducible show EvP (evE _ (E.call _ _ _) _) _);refine zAM (by assumption) ?_) | ((with_reducible show EvP (evE _ (E.glob _ _) _) _);refine zC3 (by assumption) ?_)
 | ((try dsimp only);with_reducible refine zRz (by assumption) (by (repeat walk_at "rb")) (by (repeat walk_at "rb")) (by omega) ?_))
section
namespace DL
open PySem L2
def zGq:S:=.cons (.ife (.chn .Lt .Lt (.neg (.int 1000)) (.var 0) (.int 1000)) (.cons (.ret (.bin .Mod (.bin .Mult (.bin .Add (.bin .Mult (.bin .Add (.var 0) (.int 1000)) (.bin .Add (.bin .Add (.var 0) (.int 1000)) (.bin .Mult (.int 37) (.var 1)))) (.bin .Mult (.int 911) (.var 1))) (.int 48271)) (.int 1000003))) .nil) .nil) (.cons (.ret (.var 0)) .nil)
def zLx (F:List D->Option R):Prop:=∀ (c k:Int) (Q:R->Prop),0<=k->k<=1000->(∀ x:Int,Q (.int x,.cl))->EvP (F [.int c,.int k]) Q
theorem zJQ :zLx (dFun 2 2 (evSs J zGq)):=λc k Q h0 h1 h=>by
 (walk_at "d");unfold zGq;(walk_at "st");refine zAI (zEU (zOY ?_));(walk_at "w");refine zBE (λc1=>?_) λc1=>?_
 ·(walk_at "w");refine zBE (λc2=>?_) λc2=>?_
  ·(walk_at "w");refine zBA (zCu (by decide)) ?_;(walk_at "w");refine zBA (zCu (by omega)) ?_;(walk_at "w");refine zBA (zCu (by decide)) ?_;(walk_at "w");refine zBA (zEq (by decide)) ?_;(walk_at "w");refine zBB (by decide) ?_;(walk_at "w");exact h _
  ·(walk_at "w");exact h _
 ·(walk_at "w");exact h _
theorem zDS (h:x∈rngL 0 n):∃ k:Int,x=.int k/\0<=k/\k < n:=by
 unfold rngL at h;obtain⟨k,hk,rfl⟩:=mem_map.mp h;rw[mem_range] at hk;exact⟨_,rfl,by omega,by omega⟩
def zJC:S:=.cons (.ret (.cmp .Lt (.bin .Mult (.ix (.var 0) (.int 0)) (.ix (.var 1) (.int 1))) (.bin .Mult (.ix (.var 1) (.int 0)) (.ix (.var 0) (.int 1))))) .nil
noncomputable def zEd (F:List D->Option R):Prop:=∀ (p q:Rat) (m n:Nat) (Q:R->Prop),RB m p->RB n q->m+n<=60000000->Q (.bl (decide (p < q)),.cl)->EvP (F [ratD p,ratD q]) Q
theorem zMh (p q:Rat):(p < q)<->p.num*q.den < q.num*p.den:=Rat.lt_iff ..
theorem zMB :zEd (dFun 2 2 (evSs J zJC)):=λp q m n Q hp hq l h=>by
 (walk_at "d");unfold zJC;(walk_at "st");(walk_at "w");refine zBA (zBQ hp.num hq.den l) ?_;(walk_at "w");refine zBA (zBQ hq.num hp.den (by omega)) ?_;(walk_at "w");have e:decide (p.num*↑q.den < q.num*↑p.den)=decide (p < q):=by
  rw[decide_eq_decide];exact(zMh p q).symm
 rw[e];exact h
theorem zB9 (h:zEd F)(h1:RB m p)(h2:RB n q)(h3:m+n<=60000000)(h4:Q (.bl (decide (p < q)),.cl)):EvP (F [ratD p,ratD q]) Q:=h p q m n Q h1 h2 h3 h4
theorem zRY (hx:RB n x)(hy:RB n y)(hk:RB k t):RB (3*n+k+2) (DM.pw x y t):=(zD9 hx (zDf hk (zCt hy hx))).mono (by omega)
noncomputable def hD (L:Ln):D->D
 | .tup [.tup [.int a,.int b],.tup [.int c,.int e]]=>ratD (DM.hq L (Rat.divInt a b,Rat.divInt c e))
 | d=>d
theorem zRU (h:(rngL 0 n).drop i=x::xs):i < n/\x=.int (i:Int)/\xs=(rngL 0 n).drop (i+1):=by
 have hi:i < (rngL 0 n).length:=by
  by_cases q:i < (rngL 0 n).length
  .exact q
  .rw [drop_eq_nil_of_le (by omega)] at h;cases h
 rw[drop_eq_getElem_cons hi] at h;cases h;rw[zAt] at hi;refine⟨hi,?_,rfl⟩;unfold rngL;simp
theorem zOz (h:[]=(rngL 0 n).drop i)(hi:i<=n):i=n:=by
 have:=congrArg List.length h;rw[length_nil,length_drop,zAt] at this;omega
end DL
end
open PySem L2 DL
local macro_rules | `(tactic| walk_at "c")=>`(tactic| simp only [cons_append,nil_append])
section
namespace DL
open PySem L2
theorem zFm (hn:base.length=n)(b:D->Bool)(g:D->D):∀ (zs:List D) (o:Option (D×Bool)),(∀ z∈zs,EvP (evE J c (base++[some (z,false)])) λr=>r.1=.bl (b z))->(∀ z∈zs,b z=true->EvP (evE J el (base++[some (z,false)])) λr=>r.2≠.dt/\r.1=g z)->Q ((zs.filter b).map g) ->
  EvP (zBn (tg1 n) (evC J (.cons c .nil)) (evE J el) zs (base++[o])) Q
 | [],o,_,_,h=>⟨_,rfl,h⟩
 | z::zs,o,hc,he,h=>by
  obtain⟨⟨d,k⟩,ec,ek⟩:=hc z q8;dsimp only at ek;subst ek;have es:(base++[o]).set n (some (z,false))=base++[some (z,false)]:=by
   rw[set_append_right _ _ (by omega),hn,sub_self];rfl
  have ec':evC J (.cons c .nil) (base++[some (z,false)])=some (b z):=by
   rw[evC];exact zEc ec
  by_cases hb:b z=true
  .obtain ⟨r,e,nd,er⟩:=he z q8 hb;rw[List.filter_cons_of_pos hb,map_cons] at h;obtain⟨ys,e2,q⟩:=zFm hn b g zs (some (z,false)) (Q:=λys=>Q (g z::ys)) (λy hy=>hc y (qJ _ hy)) (λy hy=>he y (qJ _ hy)) h;refine⟨_,?_,q⟩;show (tg1 n z (base++[o])).bind _=_;have et:tg1 n z (base++[o])=some (base++[some (z,false)]):=by unfold tg1;rw[es]
   rw[et,qx,ec',qx,if_pos hb,e,qx,if_neg nd,er,e2]
   rfl
  .rw [List.filter_cons_of_neg hb] at h;obtain⟨ys,e2,q⟩:=zFm hn b g zs (some (z,false)) (Q:=Q) (λy hy=>hc y (qJ _ hy)) (λy hy=>he y (qJ _ hy)) h;refine⟨_,?_,q⟩;show (tg1 n z (base++[o])).bind _=_;have et:tg1 n z (base++[o])=some (base++[some (z,false)]):=by unfold tg1;rw[es]
   rw[et,qx,ec',qx,if_neg hb,e2]
noncomputable def wpB:S:=.cons (.ret (.bin .FloorDiv (.ix (.var 0) (.int 0)) (.ix (.var 0) (.int 1)))) .nil
def WpF (F:List D->Option R):Prop:=∀ (q:Rat) (Q:R->Prop),Q (.int q.floor,.cl)->EvP (F [ratD q]) Q
theorem zIv (q:Rat):q.num.fdiv q.den=q.floor:=by rw[Rat.floor_def,Int.fdiv_eq_ediv_of_nonneg _ (Int.natCast_nonneg _)]
theorem zTq :WpF (dFun 1 1 (evSs J wpB)):=λq Q h=>by
 (walk_at "d");unfold wpB;(walk_at "st");(walk_at "w");refine zCM (zBK q) ?_;(walk_at "w");rw[zIv];exact h
def zKA (nu ns:Nat):S:=.cons (.ife (.call nu "under" (.cons (.var 1) (.cons (.var 0) .nil))) (.cons (.ret (.lrev (.call ns "numbers_between" (.cons (.var 1) (.cons (.var 0) (.cons (.var 2) .nil)))))) .nil) .nil) (.cons (.ret (.comp1 3 [] "number" (.r1 (.bin .Add (.var 2) (.int 1))) (.cons (.andl (.cons (.call nu "under" (.cons (.var 0) (.cons (.tup (.cons (.var 3) (.cons (.int 1) .nil))) .nil))) (.cons (.call nu "under" (.cons (.tup (.cons (.var 3) (.cons (.int 1) .nil))) (.cons (.var 1) .nil))) .nil))) .nil) (.var 3))) .nil)
def zNo (F:List D->Option R):Prop:=∀ (a b:Rat) (last n:Nat) (Q:R->Prop),RB n a->RB n b->n<=10000000->last<=100->Q (.lst ((DM.zCz a b last).map D.int),.fr)->EvP (F [ratD a,ratD b,.int last]) Q
def zQ6 (F:List D->Option R):Prop:=∀ (a b:Rat) (last n:Nat) (Q:R->Prop),¬ b < a->RB n a->RB n b->n<=10000000->last<=100->Q (.lst ((DM.upQ a b last).map D.int),.fr)->EvP (F [ratD a,ratD b,.int last]) Q
noncomputable def upB (a b:Rat):D->Bool
 | .int k=>decide (a < (k:Rat))&&decide ((k:Rat) < b)
 | _=>false
theorem zOn (a b:Rat)(last:Nat):((rngL 0 (last+1)).filter (upB a b)).map id=(DM.upQ a b last).map D.int:=by
 unfold rngL DM.upQ;rw[map_id,List.filter_map,List.filter_map,map_map];have e:∀ l:List Nat,(l.filter (upB a b∘λk:Nat=>D.int (0+(k:Int)))).map (λk:Nat=>D.int (0+(k:Int)))=(l.filter ((λn:Int=>decide (a < (n:Rat))&&decide ((n:Rat) < b))∘Int.ofNat)).map (D.int∘Int.ofNat):=λl=>by
  have e1:(upB a b∘λk:Nat=>D.int (0+(k:Int)))=((λn:Int=>decide (a < (n:Rat))&&decide ((n:Rat) < b))∘Int.ofNat):=by
   funext k;simp only[Function.comp,upB,Int.zero_add]
   rfl
  have e2:(λk:Nat=>D.int (0+(k:Int)))=D.int∘Int.ofNat:=by
   funext k;simp only[Function.comp,Int.zero_add]
   rfl
  rw[e1,e2]
 exact e _
theorem zJ9 (eu:J.fns[nu]?=some (("under":Str),Fu))(hu:zEd Fu):zQ6 (dFun 3 3 (evSs J (zKA nu ns))):=λa b last n Q hab ha hb hn hl h=>by
 (walk_at "d");unfold zKA;(walk_at "st");(walk_at "w");refine zB9 hu hb ha (by omega) ?_;(walk_at "w");refine zCQ hab ?_;(walk_at "w");refine⟨by omega,?_⟩;rw[show ((last:Int)+1).toNat=last+1 by omega];refine⟨by rw[zAt];omega,?_⟩;refine(show EvP (zBn (tg1 3) (evC J (.cons _ .nil)) _ _ ([some (ratD a,false),some (ratD b,false),some (.int (last:Int),false)]++[none])) _ from ?_);refine zFm (n:=3) (base:=[some (ratD a,false),some (ratD b,false),some (.int (last:Int),false)]) rfl (upB a b) id _ _ (λz hz=>?_) (λz hz _=>?_) ?_
 .obtain ⟨k,rfl,k0,k1⟩:=zDS hz;(walk_at "c");have rk:RB 8 (k:Rat):=zD8 (zCY (k:=200) (by omega) (by decide)) (by decide);(walk_at "w");rw[zEN];refine zB9 hu ha rk (by omega) ?_;(walk_at "w");refine zBE (λc=>?_) λc=>?_
  ·(walk_at "w");rw[zEN];refine zB9 hu rk hb (by omega) ?_;(walk_at "w");simp[upB,c]
  ·(walk_at "w");simp[upB,c]
 .obtain ⟨k,rfl,_⟩:=zDS hz;(walk_at "c");(walk_at "w")
  rfl
 .rw [zOn];(walk_at "w");exact h
theorem zPa (eu:J.fns[nu]?=some (("under":Str),Fu))(es:J.fns[ns]?=some (("numbers_between":Str),Fs))(hu:zEd Fu)(hs:zQ6 Fs):zNo (dFun 3 3 (evSs J (zKA nu ns))):=λa b last n Q ha hb hn hl h=>by
 by_cases c:b < a
 ·(walk_at "d");unfold zKA;(walk_at "st");(walk_at "w");refine zB9 hu hb ha (by omega) ?_;(walk_at "w");refine zCc c ?_;refine zAI (zBr (zQb (zAM es ?_)));(walk_at "w");refine hs b a last n _ (by grind) hb ha hn hl ?_;refine n_fr ⟨_,rfl,?_,?_⟩
  .rw [qy];have:(DM.upQ b a last).length<=last+1:=by
    unfold DM.upQ;refine le_trans (length_filter_le _ _) ?_;rw[qy,length_range];exact le_refl _
   omega
  .rw [<- List.map_reverse];unfold DM.zCz at h;rw[if_pos c] at h;(walk_at "w");exact h
 .refine zJ9 eu hu a b last n Q c ha hb hn hl ?_;unfold DM.zCz at h;rw[if_neg c] at h;exact h
theorem zG1 (hl:last<=100)(h:k∈DM.zCz a b last):RB 8 (k:Rat)/\a≠b:=by
 unfold DM.zCz at h;have key:∀ {a b:Rat},k∈DM.upQ a b last->RB 8 (k:Rat)/\a < b:=λh=>by
  obtain⟨h0,h1,h2,h3⟩:=DM.zDW.mp h;exact⟨zD8 (zCY (k:=200) (by omega) (by decide)) (by decide),by grind⟩
 by_cases c:b < a
 .rw [if_pos c] at h;obtain⟨h1,h2⟩:=key (List.mem_reverse.mp h);exact⟨h1,by grind⟩
 .rw [if_neg c] at h;obtain⟨h1,h2⟩:=key h;exact⟨h1,by grind⟩
theorem zFX (a b:Rat)(last:Nat):(DM.zCz a b last).length<=last+1:=by
 have key:∀ a b:Rat,(DM.upQ a b last).length<=last+1:=λa b=>by
  unfold DM.upQ;refine le_trans (length_filter_le _ _) ?_;rw[qy,length_range];exact le_refl _
 unfold DM.zCz;split
 .rw [List.length_reverse];exact key _ _
 .exact key _ _
def zJf (nd nm np nt:Nat):S:=.cons (.ife (.cmp .Eq (.len (.var 0)) (.int 0)) (.cons (.ret (.lst .nil)) .nil) .nil) (.cons (.set 5 (.call nd "parted" (.cons (.call nm "minus" (.cons (.var 4) (.cons (.var 3) .nil))) (.cons (.call nm "minus" (.cons (.var 2) (.cons (.var 1) .nil))) .nil)))) (.cons (.ret (.comp1 6 [] "number" (.it (.var 0)) .nil (.call np "plus" (.cons (.var 3) (.cons (.call nt "times" (.cons (.var 5) (.cons (.call nm "minus" (.cons (.tup (.cons (.var 6) (.cons (.int 1) .nil))) (.cons (.var 1) .nil))) .nil))) .nil))))) .nil))
def zIN (F:List D->Option R):Prop:=∀ (ks:List Int) (a b c e:Rat) (n:Nat) (Q:R->Prop),RB n a->RB n b->RB n c->RB n e->8*n+100<=10000000->(∀ k∈ks,RB 8 (k:Rat)/\a≠b)->ks.length<=200->Q (.lst (ks.map λk=>ratD (DM.pw c e (DM.tOf a b k))),.fr)->EvP (F [.lst (ks.map D.int),ratD a,ratD b,ratD c,ratD e]) Q
def zTy (a b c e:Rat):D->D
 | .int k=>ratD (DM.pw c e (DM.tOf a b k))
 | d=>d
theorem zMN (ed:J.fns[nd]?=some (("parted":Str),Fd))(em:J.fns[nm]?=some (("minus":Str),Fm))(ep:J.fns[np]?=some (("plus":Str),Fp))(et:J.fns[nt]?=some (("times":Str),Ft))
  (hd:zFt Fd) (hm:zDo Fm) (hp:zI6 Fp) (ht:zDn Ft):zIN (dFun 5 6 (evSs J (zJf nd nm np nt))):=λks a b c e n Q ha hb hc he hn hk hl h=>by
 (walk_at "d");unfold zJf;(walk_at "st");(walk_at "w");rw[qy];refine zBE (λz=>?_) λz=>?_
 .have:ks=[]:=List.eq_nil_of_length_eq_zero (by omega);subst this;(walk_at "w");exact h
 .have ne:a≠b:=by
   cases ks with
   | nil=>exact absurd rfl z
   | cons k ks=>exact(hk k q8).2
  have nz:b - a≠0:=by grind
  (walk_at "w");refine zJu hd nz (by (repeat walk_at "rb")) (by (repeat walk_at "rb")) (by omega) ?_;(walk_at "w");refine⟨by rw[qy];omega,?_⟩;refine(show EvP (zBn (tg1 6) (evC J .nil) _ _ ([some (.lst (ks.map D.int),false),some (ratD a,false),some (ratD b,false),some (ratD c,false),some (ratD e,false),some (ratD ((e - c) / (b - a)),false)]++[none])) _ from ?_);refine zE1 (n:=6) (base:=[some (.lst (ks.map D.int),false),some (ratD a,false),some (ratD b,false),some (ratD c,false),some (ratD e,false),some (ratD ((e - c) / (b - a)),false)]) rfl (zTy a b c e) _ _ (λy hy=>?_) ?_
  .obtain ⟨k,hk',rfl⟩:=mem_map.mp hy;have rk:=(hk k hk').1;(walk_at "c");have rs:RB (n+n+1+(n+n+1)) ((e - c) / (b - a)):=zGv nz (zCt he hc) (zCt hb ha);(walk_at "w");rw[zEN];(walk_at "w");show ratD _=ratD (DM.pw c e (DM.tOf a b k));have:c+(e - c) / (b - a)*((k:Rat) - a)=DM.pw c e (DM.tOf a b k):=by
    unfold DM.pw DM.tOf;rw[Rat.div_def,Rat.div_def];grind
   rw[this]
  .rw [map_map];(walk_at "w");exact h
noncomputable def upcB (nn nr:Nat):S:=.cons (.set 2 (.ix (.var 0) (.int 0))) (.cons (.set 3 (.ix (.var 0) (.int 1))) (.cons (.set 4 (.call nn "numbers_between" (.cons (.ix (.var 2) (.int 0)) (.cons (.ix (.var 3) (.int 0)) (.cons (.var 1) .nil))))) (.frz 4 (.cons (.set 5 (.call nr "rests_at" (.cons (.var 4) (.cons (.ix (.var 2) (.int 0)) (.cons (.ix (.var 3) (.int 0)) (.cons (.ix (.var 2) (.int 1)) (.cons (.ix (.var 3) (.int 1)) .nil))))))) (.frz 4 (.frz 5 (.cons (.ret (.comp1 6 [] "k" (.r1 (.len (.var 4))) .nil (.tup (.cons (.tup (.cons (.ix (.var 4) (.var 6)) (.cons (.int 1) .nil))) (.cons (.ix (.var 5) (.var 6)) .nil))))) .nil)))))))
noncomputable def lvcB (nn nr:Nat):S:=.cons (.set 2 (.ix (.var 0) (.int 0))) (.cons (.set 3 (.ix (.var 0) (.int 1))) (.cons (.set 4 (.call nn "numbers_between" (.cons (.ix (.var 2) (.int 1)) (.cons (.ix (.var 3) (.int 1)) (.cons (.var 1) .nil))))) (.frz 4 (.cons (.set 5 (.call nr "rests_at" (.cons (.var 4) (.cons (.ix (.var 2) (.int 1)) (.cons (.ix (.var 3) (.int 1)) (.cons (.ix (.var 2) (.int 0)) (.cons (.ix (.var 3) (.int 0)) .nil))))))) (.frz 4 (.frz 5 (.cons (.ret (.comp1 6 [] "k" (.r1 (.len (.var 4))) .nil (.tup (.cons (.ix (.var 5) (.var 6)) (.cons (.tup (.cons (.ix (.var 4) (.var 6)) (.cons (.int 1) .nil))) .nil))))) .nil)))))))
def atD (s:Pt×Pt)(t:Rat):D:=ptD (DM.ptAt s t)
def UpcF (F:List D->Option R):Prop:=∀ (s:Pt×Pt) (w n:Nat) (Q:R->Prop),PB n s.1->PB n s.2->8*n+100<=10000000->w<=100->Q (.lst ((DM.tsQ s.1.1 s.2.1 w).map (atD s)),.fr)->EvP (F [zCB s,.int w]) Q
def LvcF (F:List D->Option R):Prop:=∀ (s:Pt×Pt) (w n:Nat) (Q:R->Prop),PB n s.1->PB n s.2->8*n+100<=10000000->w<=100->Q (.lst ((DM.tsQ s.1.2 s.2.2 w).map (atD s)),.fr)->EvP (F [zCB s,.int w]) Q
theorem zKe {U:Type}(L:List U)(f:U->D)(g:D->D)(h:∀ (i:Nat) x,L[i]?=some x->g (.int (i:Int))=f x):(rngL 0 L.length).map g=L.map f:=by
 unfold rngL;rw[map_map];refine ext_getElem? λi=>?_
 rw[List.getElem?_map,List.getElem?_map];by_cases hi:i < L.length
 .rw [getElem?_range hi,getElem?_eq_getElem hi];show some (g (.int (0+(i:Int))))=some (f L[i]);rw[Int.zero_add,h i L[i] (getElem?_eq_getElem hi)]
 .rw [getElem?_eq_none (by rw[length_range];omega),getElem?_eq_none (by omega)]
  rfl
def zOu (f:Int->D)(L:List Int):D->D
 | .int k=>f (L.getD k.toNat 0)
 | d=>d
theorem zHc (f:Int->D)(L:List Int):(rngL 0 L.length).map (zOu f L)=L.map f:=zKe L f _ λi x e=>by
 show f (L.getD (i:Int).toNat 0)=f x;rw[toNat_natCast,getD_eq_getElem?_getD,e]
 rfl
theorem zRC (en:J.fns[nn]?=some (("numbers_between":Str),Fn))(er:J.fns[nr]?=some (("rests_at":Str),Fr))(hn:zNo Fn)(hr:zIN Fr):UpcF (dFun 2 6 (evSs J (upcB nn nr))):=λs w n Q h1 h2 hl hw h=>by
 (walk_at "d");unfold upcB;(walk_at "st");(walk_at "w");refine hn _ _ w n _ h1.x h2.x (by omega) hw ?_;have kb:∀ k∈DM.zCz s.1.1 s.2.1 w,RB 8 (k:Rat)/\s.1.1≠s.2.1:=λk hk=>zG1 hw hk
 have kl:=zFX s.1.1 s.2.1 w;have ets:(DM.tsQ s.1.1 s.2.1 w).map (atD s)=(DM.zCz s.1.1 s.2.1 w).map λk=>.tup [.tup [.int k,.int 1],ratD (DM.pw s.1.2 s.2.2 (DM.tOf s.1.1 s.2.1 k))]:=by
  unfold DM.tsQ;rw[map_map];refine map_congr_left λk hk=>?_
  show ptD (DM.pw s.1.1 s.2.1 (DM.tOf s.1.1 s.2.1 k),_)=_;rw[DM.zHl (kb k hk).2]
  rfl
 rw[ets] at h;generalize DM.zCz s.1.1 s.2.1 w=ks at *;(walk_at "w");refine hr ks _ _ _ _ n _ h1.x h2.x h1.y h2.y hl kb (by omega) ?_;(walk_at "w");rw[qy];refine⟨by omega,?_⟩;rw[toNat_natCast];refine⟨by rw[zAt];omega,?_⟩;refine(show EvP (zBn (tg1 6) (evC J .nil) _ _ ([some (zCB s,false),some (.int (w:Int),false),some (ptD s.1,false),some (ptD s.2,false),some (.lst (ks.map D.int),false),some (.lst (ks.map λk=>ratD (DM.pw s.1.2 s.2.2 (DM.tOf s.1.1 s.2.1 k))),false)]++[none])) _ from ?_);refine zE1 (n:=6) (base:=[some (zCB s,false),some (.int (w:Int),false),some (ptD s.1,false),some (ptD s.2,false),some (.lst (ks.map D.int),false),some (.lst (ks.map λk=>ratD (DM.pw s.1.2 s.2.2 (DM.tOf s.1.1 s.2.1 k))),false)]) rfl (zOu (λk=>.tup [.tup [.int k,.int 1],ratD (DM.pw s.1.2 s.2.2 (DM.tOf s.1.1 s.2.1 k))]) ks) _ _ (λz hz=>?_) ?_
 .obtain ⟨k,rfl,k0,k1⟩:=zDS hz;(walk_at "c");have hk:k.toNat < ks.length:=by omega
  have ek:k=((k.toNat:Nat):Int):=by omega
  have e1:atI (ks.map D.int) k=some (.int (ks.getD k.toNat 0)):=zHd k0 k1;have e2:atI (ks.map λk=>ratD (DM.pw s.1.2 s.2.2 (DM.tOf s.1.1 s.2.1 k))) k=some (ratD (DM.pw s.1.2 s.2.2 (DM.tOf s.1.1 s.2.1 (ks.getD k.toNat 0)))):=by
   conv=>lhs;rw[ek]
   exact zAn (by rw[List.getElem?_map,getElem?_eq_getElem hk,getD_eq_getElem?_getD,getElem?_eq_getElem hk];rfl)
  (walk_at "w");refine zA9 e1 ?_;(walk_at "w");refine zA9 e2 ?_;(walk_at "w")
  rfl
 .rw [zHc];(walk_at "w");exact h
theorem zSL (en:J.fns[nn]?=some (("numbers_between":Str),Fn))(er:J.fns[nr]?=some (("rests_at":Str),Fr))(hn:zNo Fn)(hr:zIN Fr):LvcF (dFun 2 6 (evSs J (lvcB nn nr))):=λs w n Q h1 h2 hl hw h=>by
 (walk_at "d");unfold lvcB;(walk_at "st");(walk_at "w");refine hn _ _ w n _ h1.y h2.y (by omega) hw ?_;have kb:∀ k∈DM.zCz s.1.2 s.2.2 w,RB 8 (k:Rat)/\s.1.2≠s.2.2:=λk hk=>zG1 hw hk
 have kl:=zFX s.1.2 s.2.2 w;have ets:(DM.tsQ s.1.2 s.2.2 w).map (atD s)=(DM.zCz s.1.2 s.2.2 w).map λk=>.tup [ratD (DM.pw s.1.1 s.2.1 (DM.tOf s.1.2 s.2.2 k)),.tup [.int k,.int 1]]:=by
  unfold DM.tsQ;rw[map_map];refine map_congr_left λk hk=>?_
  show ptD (_,DM.pw s.1.2 s.2.2 (DM.tOf s.1.2 s.2.2 k))=_;rw[DM.zHl (kb k hk).2]
  rfl
 rw[ets] at h;generalize DM.zCz s.1.2 s.2.2 w=ks at *;(walk_at "w");refine hr ks _ _ _ _ n _ h1.y h2.y h1.x h2.x hl kb (by omega) ?_;(walk_at "w");rw[qy];refine⟨by omega,?_⟩;rw[toNat_natCast];refine⟨by rw[zAt];omega,?_⟩;refine(show EvP (zBn (tg1 6) (evC J .nil) _ _ ([some (zCB s,false),some (.int (w:Int),false),some (ptD s.1,false),some (ptD s.2,false),some (.lst (ks.map D.int),false),some (.lst (ks.map λk=>ratD (DM.pw s.1.1 s.2.1 (DM.tOf s.1.2 s.2.2 k))),false)]++[none])) _ from ?_);refine zE1 (n:=6) (base:=[some (zCB s,false),some (.int (w:Int),false),some (ptD s.1,false),some (ptD s.2,false),some (.lst (ks.map D.int),false),some (.lst (ks.map λk=>ratD (DM.pw s.1.1 s.2.1 (DM.tOf s.1.2 s.2.2 k))),false)]) rfl (zOu (λk=>.tup [ratD (DM.pw s.1.1 s.2.1 (DM.tOf s.1.2 s.2.2 k)),.tup [.int k,.int 1]]) ks) _ _ (λz hz=>?_) ?_
 .obtain ⟨k,rfl,k0,k1⟩:=zDS hz;(walk_at "c");have hk:k.toNat < ks.length:=by omega
  have ek:k=((k.toNat:Nat):Int):=by omega
  have e1:atI (ks.map D.int) k=some (.int (ks.getD k.toNat 0)):=zHd k0 k1;have e2:atI (ks.map λk=>ratD (DM.pw s.1.1 s.2.1 (DM.tOf s.1.2 s.2.2 k))) k=some (ratD (DM.pw s.1.1 s.2.1 (DM.tOf s.1.2 s.2.2 (ks.getD k.toNat 0)))):=by
   conv=>lhs;rw[ek]
   exact zAn (by rw[List.getElem?_map,getElem?_eq_getElem hk,getD_eq_getElem?_getD,getElem?_eq_getElem hk];rfl)
  (walk_at "w");refine zA9 e2 ?_;(walk_at "w");refine zA9 e1 ?_;(walk_at "w")
  rfl
 .rw [zHc];(walk_at "w");exact h
end DL
end
open PySem L2 DL
local macro_rules | `(tactic| walk_at "e")=>`(tactic| (repeat ((fail_if_success (with_reducible show EvP (evSs _ _ _) _));walk_at "ev")))
section
namespace DL
open PySem L2
def zLp (nu:Nat):S:=.cons (.ife (.var 2) (.cons (.ret (.call nu "under" (.cons (.ix (.var 0) (.int 0)) (.cons (.ix (.var 1) (.int 0)) .nil)))) .nil) .nil) (.cons (.ret (.call nu "under" (.cons (.ix (.var 1) (.int 0)) (.cons (.ix (.var 0) (.int 0)) .nil)))) .nil)
def zIQ (F:List D->Option R):Prop:=∀ (p q:Pt) (r:Bool) (n:Nat) (Q:R->Prop),PB n p->PB n q->n<=10000000->Q (.bl (if r=true then decide (p.1 < q.1) else decide (q.1 < p.1)),.cl)->EvP (F [ptD p,ptD q,.bl r]) Q
theorem zNj (eu:J.fns[nu]?=some (("under":Str),Fu))(hu:zEd Fu):zIQ (dFun 3 3 (evSs J (zLp nu))):=λp q r n Q hp hq hn h=>by
 (walk_at "d");unfold zLp;(walk_at "st");refine zAI (zEU (zAH rfl ⟨r,rfl,?_⟩));cases r with
 | true =>
  refine cb_t ?_;(walk_at "w");refine zB9 hu hp.x hq.x (by omega) ?_;(walk_at "w");exact h
 | false =>
  refine cb_f ?_;(walk_at "w");refine zB9 hu hq.x hp.x (by omega) ?_;(walk_at "w");exact h
def zPn (na:Nat):S:=.cons (.app 3 (.ix (.var 1) (.var 4))) (.cons (.aug .Add 4 (.int 1)) .nil)
def zKO (na:Nat):E:=.andl (.cons (.cmp .Lt (.var 4) (.len (.var 1))) (.cons (.call na "comes_ahead" (.cons (.ix (.var 1) (.var 4)) (.cons (.var 5) (.cons (.var 2) .nil)))) .nil))
def zSI (na:Nat):S:=.cons (.whl (zKO na) (zPn na)) (.cons (.ife (.andl (.cons (.cmp .Lt (.var 4) (.len (.var 1))) (.cons (.cmp .Eq (.ix (.var 1) (.var 4)) (.var 5)) .nil))) (.cons (.aug .Add 4 (.int 1)) .nil) .nil) (.cons (.app 3 (.var 5)) .nil))
def zSJ (na:Nat):S:=.cons (.set 3 (.lst .nil)) (.cons (.set 4 (.int 0)) (.cons (.for1 5 (.it (.var 0)) (zSI na)) (.cons (.ret (.bin .Add (.var 3) (.sl (.var 1) (.cons (.var 4) .nil) .nil))) .nil)))
theorem zLK (ha:G[i]?=some (some (.int a,false)))(h:EvP (evE J e G) λr=>∃ b,r.1=.int b/\Q (.nx (G.set i (some (.int (a+b),false))))):EvP (evS J (.aug .Add i e) G) Q:=by
 rw[evS];obtain⟨⟨d,k⟩,e1,b,e2,q⟩:=h;dsimp only at e2;subst e2;refine⟨_,?_,q⟩;unfold augD;rw[ha];show (evE J e G).bind _=_;rw[e1]
 rfl
def zQ9 (F:List D->Option R):Prop:=∀ (s:Pt×Pt) (ts us:List Rat) (n:Nat) (Q:R->Prop),(ts≠[]->s.1.1≠s.2.1)->(∀ t∈ts,PB n (DM.ptAt s t))->(∀ t∈us,PB n (DM.ptAt s t))->n<=10000000->ts.length+us.length<=1000->Q (.lst ((DM.zBM ts us).map (atD s)),.fr)->EvP (F [.lst (ts.map (atD s)),.lst (us.map (atD s)),.bl (decide (s.1.1 < s.2.1))]) Q
theorem zNk {s:Pt×Pt}(ne:s.1.1≠s.2.1)(u t:Rat):(if decide (s.1.1 < s.2.1)=true then decide ((DM.ptAt s u).1 < (DM.ptAt s t).1) else decide ((DM.ptAt s t).1 < (DM.ptAt s u).1))=decide (u < t):=by
 unfold DM.ptAt;dsimp only;by_cases c:s.1.1 < s.2.1
 .rw [if_pos (decide_eq_true c),decide_eq_decide];exact DM.zJi c
 .rw [if_neg (by simpa using c),decide_eq_decide];exact DM.zJj (by grind)
theorem zTR (p q:Pt):eqb (ptD p) (ptD q)=decide (p=q):=by
 by_cases h:p=q
 .subst h;rw[zD2,decide_eq_true rfl]
 .rw [decide_eq_false h];have e:eqb (ptD p) (ptD q)=(eqb (ratD p.1) (ratD q.1)&&(eqb (ratD p.2) (ratD q.2)&&true)):=by
   unfold eqb ptD;simp only[toPy,toPyL,PyData.eqv,PyData.eqvAll]
  rw[e,zLL,zLL];by_cases h1:p.1=q.1
  .have h2:¬ p.2=q.2:=λz=>h (Prod.ext h1 z)
   simp[h1,h2]
  .simp [h1]
theorem zOg (h:Q (.bl (decide (p=q)),.cl)):EvP (cmpD .Eq (ptD p) (ptD q)) Q:=c_eq (zHJ (zLW p) (zLW q) (by decide)) (by rw[zTR];exact h)
theorem zOh {s:Pt×Pt}(ne:s.1.1≠s.2.1){u t:Rat}:DM.ptAt s u=DM.ptAt s t<->u=t:=by
 constructor
 .intro h;have h1:DM.pw s.1.1 s.2.1 u=DM.pw s.1.1 s.2.1 t:=congrArg Prod.fst h;unfold DM.pw at h1;have h2:(u - t)*(s.2.1 - s.1.1)=0:=by grind
  rcases Rat.mul_eq_zero.mp h2 with z | z<;>grind
 .rintro rfl;rfl
section
variable {J:Gm}{na:Nat}{Fa:List D->Option R}
theorem zIj (ea:J.fns[na]?=some (("comes_ahead":Str),Fa))(ha:zIQ Fa){s:Pt×Pt}{us:List Rat}{n:Nat}{t:Rat}{x0:Option (D×Bool)}{Q:Out->Prop}(ne:s.1.1≠s.2.1)(hus:∀ t∈us,PB n (DM.ptAt s t))(ht:PB n (DM.ptAt s t))(hn:n<=10000000)(hl:us.length<=1000) :
  ∀ (m:Nat) (acc:List Rat) (k:Nat),us.length - k<=m->k<=us.length->acc.length+(us.length - k)<=2000 ->
   Q (.nx [x0,some (.lst (us.map (atD s)),false),some (.bl (decide (s.1.1 < s.2.1)),false),some (.lst ((acc++(us.drop k).takeWhile λu=>decide (u < t)).map (atD s)),true),some (.int ((k+((us.drop k).takeWhile λu=>decide (u < t)).length:Nat):Int),false),some (atD s t,false)]) ->
   EvP (zBb (asB (evE J (zKO na))) (evSs J (zPn na)) [x0,some (.lst (us.map (atD s)),false),some (.bl (decide (s.1.1 < s.2.1)),false),some (.lst (acc.map (atD s)),true),some (.int (k:Int),false),some (atD s t,false)]) Q:=by
 intro m
 induction m with
 | zero =>
  intro acc k hm hk hb h;have e:us.drop k=[]:=drop_eq_nil_of_le (by omega);rw[e] at h;simp only[List.takeWhile_nil,append_nil,length_nil,Nat.add_zero] at h;refine zBi (as_b ?_);unfold zKO;(walk_at "w");rw[qy];refine zCQ (by omega) ?_;exact⟨_,rfl,cb_f h⟩
 | succ m ih =>
  intro acc k hm hk hb h;by_cases lt:k < us.length
  .have ed:us.drop k=us[k]::us.drop (k+1):=drop_eq_getElem_cons lt;have eu:us[k]?=some us[k]:=getElem?_eq_getElem lt;have mu:us[k]∈us:=List.getElem_mem lt;have eA:atI (us.map (atD s)) (k:Int)=some (atD s us[k]):=zAn (by rw[List.getElem?_map,eu];rfl);generalize us[k]=u at *;refine zBi (as_b ?_);unfold zKO;(walk_at "w");rw[qy];refine zCc (by omega) ?_;refine zHF (zAM ea ?_);(walk_at "w");refine zA9 eA ?_;(walk_at "w");refine(show EvP (Fa [ptD (DM.ptAt s u),ptD (DM.ptAt s t),.bl (decide (s.1.1 < s.2.1))]) _ from ?_);refine ha _ _ _ n _ (hus u mu) ht hn ?_;rw[zNk ne];(walk_at "w");by_cases c:u < t
   .refine zCc c ?_;unfold zPn;refine zAI (zEV (xs:=acc.map (atD s)) (i:=3) rfl (by rw[qy];omega) ?_);(walk_at "w");refine zA9 eA ?_;(walk_at "w");refine zLK (i:=4) rfl ?_;(walk_at "w");have e2:acc.map (atD s)++[atD s u]=(acc++[u]).map (atD s):=by rw[xJ];rfl
    rw[e2,show (k:Int)+1=((k+1:Nat):Int) by omega];refine ih (acc++[u]) (k+1) (by omega) (by omega) (by rw[qQ,length_singleton];omega) ?_;rw[ed,List.takeWhile_cons,if_pos (decide_eq_true c)] at h;rw[q0,List.singleton_append,show k+1+((us.drop (k+1)).takeWhile λu=>decide (u < t)).length=k+(u::(us.drop (k+1)).takeWhile λu=>decide (u < t)).length by rw[xY];omega];exact h
   .refine zCQ c ?_;rw[ed,List.takeWhile_cons,if_neg (by simpa using c)] at h;simp only[append_nil,length_nil,Nat.add_zero] at h;exact h
  .have e:us.drop k=[]:=drop_eq_nil_of_le (by omega);rw[e] at h;simp only[List.takeWhile_nil,append_nil,length_nil,Nat.add_zero] at h;refine zBi (as_b ?_);unfold zKO;(walk_at "w");rw[qy];refine zCQ (by omega) ?_;exact⟨_,rfl,cb_f h⟩
theorem zDD:∀ (ts us:List Rat),(DM.zBM ts us).length<=ts.length+us.length
 | [],us=>by rw[DM.zBM];simp
 | t::ts,us=>by
  rw[DM.zBM,qQ,xY,xY];have ih:=zDD ts (DM.zE0 t (us.dropWhile λu=>decide (u < t)));have h1:=(DM.zEz t (us.dropWhile λu=>decide (u < t))).length_le;have h2:(us.takeWhile λu=>decide (u < t)).length+(us.dropWhile λu=>decide (u < t)).length=us.length:=by
   rw[<- qQ,List.takeWhile_append_dropWhile]
  omega
theorem zEy (p:Rat->Bool):∀ v:List Rat,v.drop (v.takeWhile p).length=v.dropWhile p
 | []=>rfl
 | x::v=>by
  rw[List.takeWhile_cons,List.dropWhile_cons];by_cases c:p x=true
  .rw [if_pos c,if_pos c,xY,List.drop_succ_cons];exact zEy p v
  .rw [if_neg c,if_neg c]
   rfl
theorem zLO (us:List Rat)(p:Rat->Bool)(k:Nat):us.drop (k+((us.drop k).takeWhile p).length)=(us.drop k).dropWhile p:=by
 rw[<- List.drop_drop];exact zEy p _
theorem zPm (ea:J.fns[na]?=some (("comes_ahead":Str),Fa))(ha:zIQ Fa):zQ9 (dFun 3 6 (evSs J (zSJ na))):=λs ts us n Q hne hts hus hn hl h=>by
  (walk_at "d");unfold zSJ;(walk_at "st");(walk_at "w");have ml:=zDD ts us;refine zDl (λxs G=>∃ (ts' acc:List Rat) (k:Nat) (o5:Option (D×Bool)),xs=ts'.map (atD s)/\(∀ t∈ts',t∈ts)/\k<=us.length/\acc++DM.zBM ts' (us.drop k)=DM.zBM ts us/\G=[some (.lst (ts.map (atD s)),false),some (.lst (us.map (atD s)),false),some (.bl (decide (s.1.1 < s.2.1)),false),some (.lst (acc.map (atD s)),true),some (.int (k:Int),false),o5]) ?_ ?_ _ _ ⟨ts,[],0,none,rfl,λ_ z=>z,zero_le _,by simp,rfl⟩
  . rintro x xs G ⟨ts',acc,k,o5,e,mem,hk,em,rfl⟩;cases ts' with
    | nil=>cases e
    | cons t ts' =>
      cases e;have mt:=mem t q8;have ne:=hne (List.ne_nil_of_mem mt);refine⟨_,rfl,?_⟩;(walk_at "s");rw[DM.zBM] at em;have al:acc.length+(us.length - k)<=2000:=by
        have:=congrArg List.length em;rw[qQ] at this;omega
      unfold zSI;refine zAI (zOZ (zIj ea ha ne hus (hts t mt) hn (by omega) (us.length - k) acc k (le_refl _) hk al ?_));refine k_nx ?_;have dt:=zLO us (λu=>decide (u < t)) k;have lk:k+((us.drop k).takeWhile λu=>decide (u < t)).length<=us.length:=by
        have:=(List.takeWhile_sublist (l:=us.drop k) λu=>decide (u < t)).length_le;rw[length_drop] at this;omega
      have la:(acc++(us.drop k).takeWhile λu=>decide (u < t)).length<=1000:=by
        have:=congrArg List.length em;rw[qQ,qQ,xY] at this;rw[qQ];omega
      rw[<- q0] at em;generalize (acc++(us.drop k).takeWhile λu=>decide (u < t))=acc2 at *;generalize k+((us.drop k).takeWhile λu=>decide (u < t)).length=k2 at *;rw[<- dt] at em;have last:∀ k3:Nat,k3<=us.length->us.drop k3=DM.zE0 t (us.drop k2)->EvP (evSs J (.cons (.app 3 (.var 5)) .nil) [some (.lst (ts.map (atD s)),false),some (.lst (us.map (atD s)),false),some (.bl (decide (s.1.1 < s.2.1)),false),some (.lst (acc2.map (atD s)),true),some (.int (k3:Int),false),some (atD s t,false)]) λo=>match o with
          | .nx G'=>∃ (ts'' acc:List Rat) (k:Nat) (o5:Option (D×Bool)),ts'.map (atD s)=ts''.map (atD s)/\(∀ t∈ts'',t∈ts)/\k<=us.length/\acc++DM.zBM ts'' (us.drop k)=DM.zBM ts us/\G'=[some (.lst (ts.map (atD s)),false),some (.lst (us.map (atD s)),false),some (.bl (decide (s.1.1 < s.2.1)),false),some (.lst (acc.map (atD s)),true),some (.int (k:Int),false),o5]
          | .ct G'=>∃ (ts'' acc:List Rat) (k:Nat) (o5:Option (D×Bool)),ts'.map (atD s)=ts''.map (atD s)/\(∀ t∈ts'',t∈ts)/\k<=us.length/\acc++DM.zBM ts'' (us.drop k)=DM.zBM ts us/\G'=[some (.lst (ts.map (atD s)),false),some (.lst (us.map (atD s)),false),some (.bl (decide (s.1.1 < s.2.1)),false),some (.lst (acc.map (atD s)),true),some (.int (k:Int),false),o5]
          | .bk G'=>Kt J (.cons (.ret (.bin .Add (.var 3) (.sl (.var 1) (.cons (.var 4) .nil) .nil))) .nil) (Kd' Q) (.nx G')
          | .rt r=>Kt J (.cons (.ret (.bin .Add (.var 3) (.sl (.var 1) (.cons (.var 4) .nil) .nil))) .nil) (Kd' Q) (.rt r):=λk3 l3 e3=>by
        refine zAI (zEV (xs:=acc2.map (atD s)) (i:=3) rfl (by rw[qy];omega) ?_);(walk_at "w");refine⟨ts',acc2++[t],k3,some (atD s t,false),rfl,λy hy=>mem y (qJ _ hy),l3,?_,?_⟩
        . rw[e3,q0];exact em
        . rw[xJ]
          rfl
      (walk_at "w");rw[qy];refine zBE (λc=>?_) λc=>?_
      . have lt:k2 < us.length:=by omega
        have ed:us.drop k2=us[k2]::us.drop (k2+1):=drop_eq_getElem_cons lt;have eu:us[k2]?=some us[k2]:=getElem?_eq_getElem lt;have eA:atI (us.map (atD s)) (k2:Int)=some (atD s us[k2]):=zAn (by rw[List.getElem?_map,eu];rfl);generalize us[k2]=u at *;(walk_at "w");refine zA9 eA ?_;(walk_at "w");refine(show EvP (cmpD .Eq (ptD (DM.ptAt s u)) (ptD (DM.ptAt s t))) _ from ?_);refine zOg ?_;(walk_at "w");refine zBE (λc2=>?_) λc2=>?_
        . have c3:=(zOh ne).mp c2;refine zAI (zLK (i:=4) rfl ?_);(walk_at "e");refine zBl (k_nx ?_);rw[show (k2:Int)+1=((k2+1:Nat):Int) by omega];refine last (k2+1) (by omega) ?_;rw[ed,DM.zCH,if_pos c3]
        . have c3:¬ u=t:=λz=>c2 ((zOh ne).mpr z)
          refine zBl (k_nx ?_);refine last k2 lk ?_;rw[ed,DM.zCH,if_neg c3]
      . have e0:us.drop k2=[]:=drop_eq_nil_of_le (by omega);(walk_at "e");refine zBl (k_nx ?_);refine last k2 lk ?_;rw[e0]
        rfl
  . rintro G ⟨ts',acc,k,o5,e,mem,hk,em,rfl⟩;cases ts' with
    | cons t ts'=>cases e
    | nil =>
      rw[DM.zBM] at em;refine k_nx ?_;(walk_at "w");rw[zIF,<- List.map_drop];refine zNi (by rw[qy,qy,<- qQ,em];omega) ?_;rw[<- xJ,em];(walk_at "w");exact h
end
theorem zRH {k:Int}(ne:a≠b)(ha:RB n a)(hb:RB n b)(hk:RB 8 (k:Rat)):RB (3*n+10) (DM.tOf a b k) :=
 (zGv (show b - a≠0 by grind) (zCt hk ha) (zCt hb ha)).mono (by omega)
theorem zLl {s:Pt×Pt}{n k:Nat}{t:Rat}(h1:PB n s.1)(h2:PB n s.2)(ht:RB k t):PB (3*n+k+2) (DM.ptAt s t):=⟨zRY h1.x h2.x ht,zRY h1.y h2.y ht⟩
theorem zMC (hw:w<=100)(ha:RB n a)(hb:RB n b):∀ t∈DM.tsQ a b w,RB (3*n+10) t:=λt ht=>by
 unfold DM.tsQ at ht;obtain⟨k,hk,rfl⟩:=mem_map.mp ht;obtain⟨r,ne⟩:=zG1 hw hk;exact zRH ne ha hb r
theorem zGp {s:Pt×Pt}{n w h:Nat}(hw:w<=100)(hh:h<=100)(h1:PB n s.1)(h2:PB n s.2):∀ t∈DM.zDp w h s,RB (3*n+10) t:=λt ht=>by
 unfold DM.zDp DM.midQ at ht;rcases mem_append.mp ht with ht | ht
 .rcases mem_cons.mp ht with rfl | ht
  .exact zCx.mono (by omega)
  .rcases DM.zEs.mp ht with ht | ht
   .exact zMC hw h1.x h2.x t ht
   .exact zMC hh h1.y h2.y t ht
 .rw [mem_singleton.mp ht];exact zDe.mono (by omega)
theorem zHa (a b:Rat)(w:Nat):(DM.tsQ a b w).length<=w+1:=by unfold DM.tsQ;rw[qy];exact zFX a b w
theorem zHb (w h:Nat)(s:Pt×Pt):(DM.zDp w h s).length<=w+h+4:=by
 unfold DM.zDp DM.midQ;have:=zDD (DM.tsQ s.1.1 s.2.1 w) (DM.tsQ s.1.2 s.2.2 h);have:=zHa s.1.1 s.2.1 w;have:=zHa s.1.2 s.2.2 h;rw[qQ,xY,length_singleton];omega
theorem at_0 (s:Pt×Pt):DM.ptAt s 0=s.1:=by unfold DM.ptAt;rw[DM.pw_0,DM.pw_0]
theorem at_1 (s:Pt×Pt):DM.ptAt s 1=s.2:=by unfold DM.ptAt;rw[DM.pw_1,DM.pw_1]
def zJN (nm nu nl nx:Nat):S:=.cons (.set 3 (.ix (.var 2) (.int 0))) (.cons (.set 4 (.ix (.var 2) (.int 1))) (.cons (.set 5 (.call nm "made_one" (.cons (.call nu "upright_crossings" (.cons (.var 2) (.cons (.var 0) .nil))) (.cons (.call nl "level_crossings" (.cons (.var 2) (.cons (.var 1) .nil))) (.cons (.call nx "under" (.cons (.ix (.var 3) (.int 0)) (.cons (.ix (.var 4) (.int 0)) .nil))) .nil))))) (.frz 4 (.frz 3 (.cons (.ret (.bin .Add (.bin .Add (.lst (.cons (.var 3) .nil)) (.var 5)) (.lst (.cons (.var 4) .nil)))) .nil)))))
def zLw (F:List D->Option R):Prop:=∀ (w h:Nat) (s:Pt×Pt) (n:Nat) (Q:R->Prop),PB n s.1->PB n s.2->20*n+200<=10000000->w<=100->h<=100->Q (.lst ((DM.zDp w h s).map (atD s)),.fr)->EvP (F [.int w,.int h,zCB s]) Q
theorem zMG (em:J.fns[nm]?=some (("made_one":Str),Fm))(eu:J.fns[nu]?=some (("upright_crossings":Str),Fu))(el:J.fns[nl]?=some (("level_crossings":Str),Fl))(ex:J.fns[nx]?=some (("under":Str),Fx))
  (hm:zQ9 Fm) (hu:UpcF Fu) (hl:LvcF Fl) (hx:zEd Fx):zLw (dFun 3 6 (evSs J (zJN nm nu nl nx))):=λw h s n Q h1 h2 hn hw hh hQ=>by
 (walk_at "d");unfold zJN;(walk_at "st");(walk_at "w");refine hu s w n _ h1 h2 (by omega) hw ?_;(walk_at "w");refine hl s h n _ h1 h2 (by omega) hh ?_;(walk_at "w");refine zB9 hx h1.x h2.x (by omega) ?_;(walk_at "w");have l1:=zHa s.1.1 s.2.1 w;have l2:=zHa s.1.2 s.2.2 h;refine hm s _ _ (6*n+20) _ (λz=>?_) (λt ht=>?_) (λt ht=>?_) (by omega) (by omega) ?_
 .obtain ⟨t,ht⟩:=List.exists_mem_of_ne_nil _ z;exact(DM.zPl.mp ht).1
 .exact (zLl h1 h2 (zMC hw h1.x h2.x t ht)).mono (by omega)
 .exact (zLl h1 h2 (zMC hh h1.y h2.y t ht)).mono (by omega)
 have ml:=zDD (DM.tsQ s.1.1 s.2.1 w) (DM.tsQ s.1.2 s.2.2 h);(walk_at "w");refine zNi (by rw[qy,length_singleton];omega) ?_;(walk_at "w");refine zNi (by rw[qQ,qy,length_singleton,length_singleton];omega) ?_;(walk_at "w");have e:[ptD s.1]++(DM.zBM (DM.tsQ s.1.1 s.2.1 w) (DM.tsQ s.1.2 s.2.2 h)).map (atD s)++[ptD s.2]=(DM.zDp w h s).map (atD s):=by
  unfold DM.zDp DM.midQ;rw[xJ,map_cons,map_cons,map_nil];unfold atD;rw[at_0,at_1]
  rfl
 rw[e];exact hQ
noncomputable def midB (nt np ng:Nat):S:=.cons (.ret (.call nt "times" (.cons (.glob ng "HALF") (.cons (.call np "plus" (.cons (.var 0) (.cons (.var 1) .nil))) .nil)))) .nil
def MidF (F:List D->Option R):Prop:=∀ (p q:Rat) (n:Nat) (Q:R->Prop),RB n p->RB n q->n<=10000000->Q (ratD ((p+q) / 2),.cl)->EvP (F [ratD p,ratD q]) Q
theorem zR7 (et:J.fns[nt]?=some (("times":Str),Ft))(ep:J.fns[np]?=some (("plus":Str),Fp))(eg:J.cs[ng]?=some (("HALF":Str),.tup [.int 1,.int 2]))(ht:zDn Ft)(hp:zI6 Fp):MidF (dFun 2 2 (evSs J (midB nt np ng))):=λp q n Q h1 h2 hn h=>by
 (walk_at "d");unfold midB;(walk_at "st");(walk_at "w");rw[zMw];refine zRz ht zGw (by (repeat walk_at "rb")) (by omega) ?_;(walk_at "w");rw[<- DM.zFf];exact h
noncomputable def pcB (nw nm:Nat):S:=.cons (.set 2 (.call nw "whole_part" (.cons (.call nm "middle" (.cons (.ix (.var 0) (.int 0)) (.cons (.ix (.var 1) (.int 0)) .nil))) .nil))) (.cons (.set 3 (.call nw "whole_part" (.cons (.call nm "middle" (.cons (.ix (.var 0) (.int 1)) (.cons (.ix (.var 1) (.int 1)) .nil))) .nil))) (.cons (.ret (.tup (.cons (.max (.var 2) (.neg (.int 1))) (.cons (.var 3) (.cons (.var 0) (.cons (.var 1) .nil)))))) .nil))
def zCV (c r:Int)(p q:Pt):D:=.tup [.int c,.int r,ptD p,ptD q]
noncomputable def colQ (p q:Pt):Int:=max ((p.1+q.1) / 2).floor (-1)
def rowQ (p q:Pt):Int:=((p.2+q.2) / 2).floor
def PcF (F:List D->Option R):Prop:=∀ (p q:Pt) (n:Nat) (Q:R->Prop),PB n p->PB n q->n<=10000000->Q (zCV (colQ p q) (rowQ p q) p q,.cl)->EvP (F [ptD p,ptD q]) Q
theorem zT3 (ew:J.fns[nw]?=some (("whole_part":Str),Fw))(em:J.fns[nm]?=some (("middle":Str),Fm))(hw:WpF Fw)(hm:MidF Fm):PcF (dFun 2 4 (evSs J (pcB nw nm))):=λp q n Q h1 h2 hn h=>by
 (walk_at "d");unfold pcB;(walk_at "st");(walk_at "w");refine hm _ _ n _ h1.x h2.x hn ?_;(walk_at "w");refine hw _ _ ?_;(walk_at "w");refine hm _ _ n _ h1.y h2.y hn ?_;(walk_at "w");refine hw _ _ ?_;(walk_at "w");exact h
theorem i_c0 (h:Q (.int c,.cl)):EvP (ixD (zCV c r p q) (.int 0)) Q:=zDG rfl h
theorem i_c1 (h:Q (.int r,.cl)):EvP (ixD (zCV c r p q) (.int 1)) Q:=zDG rfl h
theorem i_c2 (h:Q (ptD p,.cl)):EvP (ixD (zCV c r p q) (.int 2)) Q:=zDG rfl h
theorem i_c3 (h:Q (ptD q,.cl)):EvP (ixD (zCV c r p q) (.int 3)) Q:=zDG rfl h
noncomputable def onB:S:=.cons (.ret (.andl (.cons (.cmp .Lt (.ix (.var 2) (.int 0)) (.var 0)) (.cons (.chn .LtE .Lt (.int 0) (.ix (.var 2) (.int 1)) (.var 1)) .nil)))) .nil
def OnF (F:List D->Option R):Prop:=∀ (w h c r:Int) (p q:Pt) (Q:R->Prop),Q (.bl (decide (c < w)&&(decide (0<=r)&&decide (r < h))),.cl)->EvP (F [.int w,.int h,zCV c r p q]) Q
theorem zT4 :OnF (dFun 3 3 (evSs J onB)):=λw h c r p q Q hQ=>by
 (walk_at "d");unfold onB;(walk_at "st");(walk_at "w");refine i_c0 ?_;(walk_at "w");refine zBE (λz1=>?_) λz1=>?_
 .refine zHF (zOY ?_);(walk_at "w");refine i_c1 ?_;(walk_at "w");refine zBE (λz2=>?_) λz2=>?_
  ·(walk_at "w");simpa [z1,z2] using hQ
  ·(walk_at "w");simpa [z1,z2] using hQ
 ·(walk_at "w");simpa [z1] using hQ
def pcQ (s:Pt×Pt)(p:Rat×Rat):D:=zCV (colQ (DM.ptAt s p.1) (DM.ptAt s p.2)) (rowQ (DM.ptAt s p.1) (DM.ptAt s p.2)) (DM.ptAt s p.1) (DM.ptAt s p.2)
def zMr (w h:Nat)(s:Pt×Pt):List (Rat×Rat):=(DM.adj (DM.zDp w h s)).filter λp=>decide (DM.zI7 w h s (DM.mid2 p))
theorem zKY {w h:Nat}(hw:1<=w)(s:Pt×Pt)(p:Rat×Rat):(decide (colQ (DM.ptAt s p.1) (DM.ptAt s p.2) < (w:Int))&&(decide (0<=rowQ (DM.ptAt s p.1) (DM.ptAt s p.2))&&decide (rowQ (DM.ptAt s p.1) (DM.ptAt s p.2) < (h:Int))))=decide (DM.zI7 w h s (DM.mid2 p)):=by
 have e:∀ a b:Bool,(a=true<->b=true)->a=b:=λa b z=>by cases a<;>cases b<;>simp_all
 refine e _ _ ?_;simp only[x9,qj];unfold DM.zI7 colQ rowQ;rw[DM.zN3,DM.zN3];unfold DM.ptAt;dsimp only;generalize (DM.pw s.1.1 s.2.1 p.1+DM.pw s.1.1 s.2.1 p.2) / 2=x;generalize (DM.pw s.1.2 s.2.2 p.1+DM.pw s.1.2 s.2.2 p.2) / 2=y;have f1:x.floor < (w:Int)<->x < ((w:Int):Rat):=Rat.floor_lt_iff;have f2:(0:Int)<=y.floor<->((0:Int):Rat)<=y:=Rat.le_floor_iff;have f3:y.floor < (h:Int)<->y < ((h:Int):Rat):=Rat.floor_lt_iff;have z0:((0:Int):Rat)=0:=rfl;have z1:(((w:Nat):Int):Rat)=(w:Rat):=rfl;have z2:(((h:Nat):Int):Rat)=(h:Rat):=rfl;rw[z0] at f2;rw[z1] at f1;rw[z2] at f3;rw[<- f1,<- f2,<- f3];omega
def zGy (ns np no:Nat):S:=.cons (.ife (.cmp .Eq (.ix (.var 2) (.int 0)) (.ix (.var 2) (.int 1))) (.cons (.ret (.lst .nil)) .nil) .nil) (.cons (.set 3 (.call ns "stops" (.cons (.var 0) (.cons (.var 1) (.cons (.var 2) .nil))))) (.frz 3 (.cons (.setC 4 (.comp1 5 [] "k" (.r1 (.bin .Sub (.len (.var 3)) (.int 1))) .nil (.call np "piece_between" (.cons (.ix (.var 3) (.var 5)) (.cons (.ix (.var 3) (.bin .Add (.var 5) (.int 1))) .nil))))) (.frz 4 (.cons (.ret (.comp1 5 [] "part" (.it (.var 4)) (.cons (.call no "counts_on" (.cons (.var 0) (.cons (.var 1) (.cons (.var 5) .nil)))) .nil) (.var 5))) .nil)))))
def zDT (w h:Nat)(s:Pt×Pt):List (Rat×Rat):=if s.1=s.2 then [] else zMr w h s
def zHW (F:List D->Option R):Prop:=∀ (w h:Nat) (s:Pt×Pt) (n:Nat) (Q:R->Prop),PB n s.1->PB n s.2->20*n+200<=10000000->1<=w->w<=100->h<=100->Q (.lst ((zDT w h s).map (pcQ s)),.fr)->EvP (F [.int w,.int h,zCB s]) Q
def zQZ (nm:Nat):S:=.cons (.ret (.call nm "minus" (.cons (.ix (.ix (.var 0) (.int 2)) (.int 1)) (.cons (.ix (.ix (.var 0) (.int 3)) (.int 1)) .nil)))) .nil
def zL1 (F:List D->Option R):Prop:=∀ (c r:Int) (p q:Pt) (n:Nat) (Q:R->Prop),PB n p->PB n q->n<=10000000->Q (ratD (p.2 - q.2),.cl)->EvP (F [zCV c r p q]) Q
theorem zQY (em:J.fns[nm]?=some (("minus":Str),Fm))(hm:zDo Fm):zL1 (dFun 1 1 (evSs J (zQZ nm))):=λc r p q n Q h1 h2 hn h=>by
 (walk_at "d");unfold zQZ;(walk_at "st");(walk_at "w");refine i_c2 ?_;(walk_at "w");refine i_c3 ?_;(walk_at "w");exact h
def zJe (ng nt nf nm nd:Nat):S:=.cons (.set 1 (.ix (.var 0) (.int 0))) (.cons (.ife (.cmp .Eq (.var 1) (.neg (.int 1))) (.cons (.ret (.glob ng "NOUGHT")) .nil) .nil) (.cons (.ret (.call nt "times" (.cons (.call nf "fall" (.cons (.var 0) .nil)) (.cons (.call nm "minus" (.cons (.tup (.cons (.bin .Add (.var 1) (.int 1)) (.cons (.int 1) .nil))) (.cons (.call nd "middle" (.cons (.ix (.ix (.var 0) (.int 2)) (.int 0)) (.cons (.ix (.ix (.var 0) (.int 3)) (.int 0)) .nil))) .nil))) .nil)))) .nil))
def zHj (c:Int)(p q:Pt):Rat:=if c=-1 then 0 else (p.2 - q.2)*(((c+1:Int):Rat) - (p.1+q.1) / 2)
def zIM (F:List D->Option R):Prop:=∀ (c r:Int) (p q:Pt) (n:Nat) (Q:R->Prop),PB n p->PB n q->10*n+100<=10000000->c.natAbs<=1000->Q (ratD (zHj c p q),.cl)->EvP (F [zCV c r p q]) Q
theorem zOI (h1:RB n p)(h2:RB n q):RB (2*n+3) ((p+q) / 2):=by
 rw[DM.zFf];exact(zDf zGw (zD9 h1 h2)).mono (by omega)
theorem zMM (eg:J.cs[ng]?=some (("NOUGHT":Str),.tup [.int 0,.int 1]))(et:J.fns[nt]?=some (("times":Str),Ft))(ef:J.fns[nf]?=some (("fall":Str),Ff))(em:J.fns[nm]?=some (("minus":Str),Fm))(ed:J.fns[nd]?=some (("middle":Str),Fd))
  (ht:zDn Ft) (hf:zL1 Ff) (hm:zDo Fm) (hd:MidF Fd):zIM (dFun 1 2 (evSs J (zJe ng nt nf nm nd))):=λc r p q n Q h1 h2 hn hc h=>by
 (walk_at "d");unfold zJe;(walk_at "st");(walk_at "w");refine i_c0 ?_;(walk_at "w");unfold zHj at h;refine zBE (λz=>?_) λz=>?_
 .rw [if_pos z] at h;(walk_at "w");exact h
 .rw [if_neg z] at h;have rc:RB 12 ((c+1:Int):Rat):=zD8 (zCY (k:=2000) (by omega) (by decide)) (by decide);have rm:=zOI h1.x h2.x;have rf:RB (n+n+1) (p.2 - q.2):=zCt h1.y h2.y;(walk_at "w");refine hf c r p q n _ h1 h2 (by omega) ?_;(walk_at "w");rw[zEN];refine i_c2 ?_;(walk_at "w");refine i_c3 ?_;(walk_at "w");refine hd _ _ n _ h1.x h2.x (by omega) ?_;(walk_at "w");exact h
theorem zHV:∀ l:List Rat,(DM.adj l).length=l.length - 1
 | []=>by rw[DM.zLs];rfl
 | [a]=>by rw[DM.zLr];rfl
 | a::b::r=>by
  rw[DM.zLq,xY,zHV (b::r)];simp
theorem zLt:∀ {l:List Rat} {i:Nat} {p:Rat×Rat},(DM.adj l)[i]?=some p->l[i]?=some p.1/\l[i+1]?=some p.2
 | [],i,p,h=>by rw[DM.zLs] at h;simp at h
 | [a],i,p,h=>by rw[DM.zLr] at h;simp at h
 | a::b::r,i,p,h=>by
  rw[DM.zLq] at h;cases i with
  | zero =>
   simp at h;subst h;exact⟨rfl,rfl⟩
  | succ i =>
   rw[List.getElem?_cons_succ] at h;have:=zLt h;exact⟨by simpa using this.1,by simpa using this.2⟩
def zRn (s:Pt×Pt)(L:List (Rat×Rat)):D->D
 | .int k=>pcQ s (L.getD k.toNat (0,0))
 | d=>d
noncomputable def onD (w h:Int):D->Bool
 | .tup [.int c,.int r,_,_]=>decide (c < w)&&(decide (0<=r)&&decide (r < h))
 | _=>false
theorem zPV {w h:Nat}(hw:1<=w)(s:Pt×Pt)(L:List (Rat×Rat)):((L.map (pcQ s)).filter (onD w h)).map id=(L.filter λp=>decide (DM.zI7 w h s (DM.mid2 p))).map (pcQ s):=by
 rw[map_id,List.filter_map];congr 1;refine List.filter_congr λp _=>?_
 exact zKY hw s p
theorem zJn (es:J.fns[ns]?=some (("stops":Str),Fs))(ep:J.fns[np]?=some (("piece_between":Str),Fp))(eo:J.fns[no]?=some (("counts_on":Str),Fo))(hs:zLw Fs)(hp:PcF Fp)(ho:OnF Fo) :
  zHW (dFun 3 5 (evSs J (zGy ns np no))):=λw h s n Q h1 h2 hn hw1 hw hh hQ=>by
 (walk_at "d");unfold zGy;(walk_at "st");refine zAI ?_;(walk_at "e");refine zOg ?_;(walk_at "e");unfold zDT at hQ;refine zBE (λz=>?_) λz=>?_
 .rw [if_pos z] at hQ;(walk_at "w");exact hQ
 rw[if_neg z] at hQ;unfold zMr at hQ;refine zBl (k_nx (zAI ?_));(walk_at "e");refine hs w h s n _ h1 h2 hn hw hh ?_;have sl:=zHb w h s;have sb:∀ t∈DM.zDp w h s,PB (6*n+20) (DM.ptAt s t):=λt ht=>(zLl h1 h2 (zGp hw hh h1 h2 t ht)).mono (by omega)
 generalize DM.zDp w h s=l at *;have al:=zHV l;(walk_at "e");refine zH3 rfl ?_;(walk_at "s");refine zAI (zHI (zDM (zJO ?_)));(walk_at "e");rw[qy];refine⟨by omega,?_⟩;rw[show ((l.length:Int) - 1).toNat=(DM.adj l).length by omega];refine⟨by rw[zAt];omega,?_⟩;refine(show EvP (zBn (tg1 5) (evC J .nil) _ _ ([some (.int (w:Int),false),some (.int (h:Int),false),some (zCB s,false),some (.lst (l.map (atD s)),false),none]++[none])) _ from ?_);refine zE1 (n:=5) (base:=[some (.int (w:Int),false),some (.int (h:Int),false),some (zCB s,false),some (.lst (l.map (atD s)),false),none]) rfl (zRn s (DM.adj l)) _ _ (λy hy=>?_) ?_
 .obtain ⟨k,rfl,k0,k1⟩:=zDS hy;(walk_at "c");have hk:k.toNat < (DM.adj l).length:=by omega
  have ek:k=((k.toNat:Nat):Int):=by omega
  have eg:(DM.adj l)[k.toNat]?=some (DM.adj l)[k.toNat]:=getElem?_eq_getElem hk;have ed:(DM.adj l).getD k.toNat (0,0)=(DM.adj l)[k.toNat]:=by rw[getD_eq_getElem?_getD,eg];rfl
  obtain⟨g1,g2⟩:=zLt eg;generalize (DM.adj l)[k.toNat]=pr at *;have e1:atI (l.map (atD s)) k=some (atD s pr.1):=by
   conv=>lhs;rw[ek]
   exact zAn (by rw[List.getElem?_map,g1];rfl)
  have e2:atI (l.map (atD s)) (k+1)=some (atD s pr.2):=by
   conv=>lhs;rw[show k+1=((k.toNat+1:Nat):Int) by omega]
   exact zAn (by rw[List.getElem?_map,g2];rfl)
  (walk_at "w");refine zA9 e1 ?_;(walk_at "w");refine zA9 e2 ?_;(walk_at "w");refine(show EvP (Fp [ptD (DM.ptAt s pr.1),ptD (DM.ptAt s pr.2)]) _ from ?_);refine hp _ _ (6*n+20) _ (sb _ (mem_of_getElem? g1)) (sb _ (mem_of_getElem? g2)) (by omega) ?_;(walk_at "w");show zCV _ _ _ _=pcQ s ((DM.adj l).getD k.toNat (0,0));rw[ed]
  rfl
 rw[zKe (DM.adj l) (pcQ s) _ λi x e=>by
  show pcQ s ((DM.adj l).getD (i:Int).toNat (0,0))=pcQ s x;rw[toNat_natCast,getD_eq_getElem?_getD,e]
  rfl]
 (walk_at "e");refine zH3 rfl ?_;(walk_at "s");refine zAI (zBr (zDM (zJP ?_)));(walk_at "e");refine⟨by rw[qy];omega,?_⟩;refine(show EvP (zBn (tg1 5) (evC J (.cons _ .nil)) _ _ ([some (.int (w:Int),false),some (.int (h:Int),false),some (zCB s,false),some (.lst (l.map (atD s)),false),some (.lst ((DM.adj l).map (pcQ s)),false)]++[none])) _ from ?_);refine zFm (n:=5) (base:=[some (.int (w:Int),false),some (.int (h:Int),false),some (zCB s,false),some (.lst (l.map (atD s)),false),some (.lst ((DM.adj l).map (pcQ s)),false)]) rfl (onD w h) id _ _ (λy hy=>?_) (λy hy _=>?_) ?_
 .obtain ⟨p,hp',rfl⟩:=mem_map.mp hy;(walk_at "c");(walk_at "w");refine ho _ _ _ _ _ _ _ ?_;(walk_at "w")
  rfl
 ·(walk_at "c");(walk_at "w")
  rfl
 .rw [zPV hw1];(walk_at "w");exact hQ
structure Pc where
 c:Int
 r:Int
 p:Pt
 q:Pt
def pcD (z:Pc):D:=zCV z.c z.r z.p z.q
def pcO (s:Pt×Pt)(t:Rat×Rat):Pc:=⟨colQ (DM.ptAt s t.1) (DM.ptAt s t.2),rowQ (DM.ptAt s t.1) (DM.ptAt s t.2),DM.ptAt s t.1,DM.ptAt s t.2⟩
noncomputable def zDr (w h:Nat)(s:Pt×Pt):List Pc:=(zDT w h s).map (pcO s)
def zEf (w h:Nat)(ps:List Pt):List Pc:=(DM.zBF ps).flatMap (zDr w h)
def allP (w h:Nat)(rs:List (List Pt)):List Pc:=rs.flatMap (zEf w h)
def zCq (z:Pc):Rat:=z.p.2 - z.q.2
def zC7 (z:Pc):Rat:=zHj z.c z.p z.q
structure PcB (n w h:Nat)(z:Pc):Prop where
 c0:-1<=z.c
 c1:z.c < (w:Int)
 r0:0<=z.r
 r1:z.r < (h:Int)
 p:PB (6*n+20) z.p
 q:PB (6*n+20) z.q
theorem zQ5 (h:t∈DM.adj l):t.1∈l/\t.2∈l:=by
 induction l with
 | nil=>exact absurd h (by simp[DM.adj])
 | cons a l ih =>
  cases l with
  | nil=>exact absurd h (by simp[DM.adj])
  | cons b l =>
   rw[DM.adj] at h;rcases mem_cons.mp h with rfl | h
   .exact ⟨by simp,by simp⟩
   .exact ⟨qJ _ (ih h).1,qJ _ (ih h).2⟩
theorem zOw (hw:1<=w)(hw2:w<=100)(hh:h<=100)(h1:PB n s.1)(h2:PB n s.2):∀ z∈zDr w h s,PcB n w h z:=by
 intro z hz;unfold zDr zDT at hz;obtain⟨t,ht,rfl⟩:=mem_map.mp hz;split at ht
 .exact absurd ht (by simp)
 .unfold zMr at ht;obtain⟨m,k⟩:=mem_filter.mp ht;obtain⟨m1,m2⟩:=zQ5 m;rw[<- zKY hw s t] at k;simp only[x9,qj] at k;have c0:-1<=colQ (DM.ptAt s t.1) (DM.ptAt s t.2):=by unfold colQ;omega
  exact⟨c0,k.1,k.2.1,k.2.2,(zLl h1 h2 (zGp hw2 hh h1 h2 _ m1)).mono (by omega),(zLl h1 h2 (zGp hw2 hh h1 h2 _ m2)).mono (by omega)⟩
theorem zFK (w h:Nat)(s:Pt×Pt):(zDr w h s).length<=w+h+4:=by
 unfold zDr zDT;rw[qy];split
 .simp
 .unfold zMr;have a:=length_filter_le (λp=>decide (DM.zI7 w h s (DM.mid2 p))) (DM.adj (DM.zDp w h s));have b:=zHV (DM.zDp w h s);have c:=zHb w h s;omega
theorem zMI (w h:Nat)(s:Pt×Pt):(zDT w h s).map (pcQ s)=(zDr w h s).map pcD:=by
 unfold zDr;rw[map_map]
 rfl
def RgP (n:Nat)(ps:List Pt):Prop:=ps.length<=12/\∀ p∈ps,PB n p
theorem zO0 (hw:1<=w)(hw2:w<=100)(hh:h<=100)(hp:RgP n ps):∀ z∈zEf w h ps,PcB n w h z:=by
 intro z hz;obtain⟨s,hs,hz⟩:=List.mem_flatMap.mp hz;obtain⟨m1,m2⟩:=DM.zF3 hs;exact zOw hw hw2 hh (hp.2 _ m1) (hp.2 _ m2) z hz
theorem zOi (hw:1<=w)(hw2:w<=100)(hh:h<=100)(hr:∀ ps∈rs,RgP n ps):∀ z∈allP w h rs,PcB n w h z:=by
 intro z hz;obtain⟨s,hs,hz⟩:=List.mem_flatMap.mp hz;exact zO0 hw hw2 hh (hr s hs) z hz
theorem zDI {U M:Type}(f:U->List M)(n:Nat):∀ l:List U,(∀ x∈l,(f x).length<=n)->(l.flatMap f).length<=l.length*n
 | [],_=>by simp
 | a::l,h=>by
  have ih:=zDI f n l λx hx=>h x (qJ _ hx)
  have ha:=h a q8;rw[List.flatMap_cons,qQ,xY,Nat.succ_mul];omega
theorem zF8 (w h:Nat)(ps:List Pt):(zEf w h ps).length<=ps.length*(w+h+4):=by
 have:=zDI (zDr w h) (w+h+4) (DM.zBF ps) λs _=>zFK w h s
 rw[DM.zF4] at this;exact this
noncomputable def allB (ns np:Nat):S:=.cons (.set 3 (.lst .nil)) (.cons (.for1 4 (.it (.var 2)) (.cons (.for1 5 (.it (.call ns "sides" (.cons (.var 4) .nil))) (.cons (.ext 3 (.call np "pieces" (.cons (.var 0) (.cons (.var 1) (.cons (.var 5) .nil))))) .nil)) .nil)) (.cons (.retOwn 3) .nil))
structure FlB (n w h:Nat)(rs:List (List Pt)):Prop where
 w1:1<=w
 w2:w<=6
 h1:1<=h
 h2:h<=6
 m:rs.length<=6
 b:n<=1000
 r:∀ ps∈rs,RgP n ps
def AllF (F:List D->Option R):Prop:=∀ (n w h:Nat) (rs:List (List Pt)) (Q:R->Prop),FlB n w h rs->Q (.lst ((allP w h rs).map pcD),.fr)->EvP (F [.int w,.int h,zBj rs]) Q
theorem zFy {U M:Type}(f:U->List M){l:List U}{i:Nat}{x:U}(e:l[i]?=some x):(l.take (i+1)).flatMap f=(l.take i).flatMap f++f x:=by
 rw[take_add_one,e];show (l.take i++[x]).flatMap f=_;rw[List.flatMap_append];simp
theorem zTi (es:J.fns[ns]?=some (("sides":Str),Fs))(ep:J.fns[np]?=some (("pieces":Str),Fp))(hs:zLy Fs)(hp:zHW Fp):AllF (dFun 3 6 (evSs J (allB ns np))):=λn w h rs Q fb hQ=>by
 obtain⟨w1,w2,h1,h2,hn,nb,hr⟩:=fb;(walk_at "d");unfold allB;(walk_at "st");refine zAI ?_;(walk_at "e");have bnd:∀ i,((rs.take i).flatMap (zEf w h)).length<=6*192:=λi=>by
  have:=zDI (zEf w h) 192 (rs.take i) λps hps=>by
   have a:=zF8 w h ps;have b:=(hr ps (x8 hps)).1;have c:ps.length*(w+h+4)<=12*16:=Nat.mul_le_mul b (by omega);omega
  have l:(rs.take i).length<=6:=by rw[length_take];omega
  have:=mul_le_mul_right 192 l;omega
 refine zAI (zDc (zJP (zAH rfl (w_cl (ds:=rs.map zF9) ?_))));refine zDl (λxs G=>∃ (i:Nat) (a b:Option (D×Bool)),G=[some (.int (w:Int),false),some (.int (h:Int),false),some (zBj rs,false),some (.lst (((rs.take i).flatMap (zEf w h)).map pcD),true),a,b]/\xs=(rs.drop i).map zF9/\i<=rs.length) ?_ ?_ _ _ ⟨0,none,none,rfl,rfl,zero_le _⟩
 .rintro x xs G ⟨i,a,b,rfl,exs,hi⟩;have hlt:i < rs.length:=by
   by_cases q:i < rs.length
   .exact q
   .rw [drop_eq_nil_of_le (by omega)] at exs;cases exs
  rw[drop_eq_getElem_cons hlt,map_cons] at exs;obtain⟨rfl,rfl⟩:=List.cons.inj exs;have eg:rs[i]?=some rs[i]:=getElem?_eq_getElem hlt;generalize rs[i]=ps at eg exs;have hps:=hr ps (mem_of_getElem? eg);have et:=zFy (zEf w h) eg;have b0:=bnd i;generalize (rs.take i).flatMap (zEf w h)=A at et b0;refine⟨_,rfl,?_⟩;(walk_at "s");refine zAI (zDc (zJP (zAM es (zAD (zAH rfl (n_cl (zAe ?_)))))));have p1:=hps.1;refine hs ps _ (by omega) ?_;refine n_fr (w_fr ?_);refine zDl (λys G=>∃ (j:Nat) (b:Option (D×Bool)),G=[some (.int (w:Int),false),some (.int (h:Int),false),some (zBj rs,false),some (.lst ((A++((DM.zBF ps).take j).flatMap (zDr w h)).map pcD),true),some (zF9 ps,false),b]/\ys=((DM.zBF ps).drop j).map zCB/\j<=(DM.zBF ps).length) ?_ ?_ _ _ ⟨0,b,?_,rfl,zero_le _⟩
  .rintro y ys G ⟨j,b,rfl,eys,hj⟩;have hlt2:j < (DM.zBF ps).length:=by
    by_cases q:j < (DM.zBF ps).length
    .exact q
    .rw [drop_eq_nil_of_le (by omega)] at eys;cases eys
   rw[drop_eq_getElem_cons hlt2,map_cons] at eys;obtain⟨rfl,rfl⟩:=List.cons.inj eys;have eg2:(DM.zBF ps)[j]?=some (DM.zBF ps)[j]:=getElem?_eq_getElem hlt2;generalize (DM.zBF ps)[j]=s at eg2 eys;obtain⟨m1,m2⟩:=DM.zF3 (mem_of_getElem? eg2);have et2:=zFy (zDr w h) eg2;have b1:(((DM.zBF ps).take j).flatMap (zDr w h)).length<=12*16:=by
    have:=zDI (zDr w h) 16 ((DM.zBF ps).take j) λs _=>le_trans (zFK w h s) (by omega)
    have l:((DM.zBF ps).take j).length<=12:=by rw[length_take,DM.zF4];omega
    have:=mul_le_mul_right 16 l;omega
   have b2:=zFK w h s;refine⟨_,rfl,?_⟩;(walk_at "s");refine zAI (zTQ rfl (zAM ep (zAD (zAH rfl (n_cl (zAD (zAH rfl (n_cl (zAD (zAH rfl (n_cl (zAe ?_))))))))))));refine hp w h s n _ (hps.2 _ m1) (hps.2 _ m2) (by omega) w1 (by omega) (by omega) ?_;rw[zMI];refine n_fr ⟨_,rfl,?_,zBl ?_⟩
   .rw [qy,qQ,qy];omega
   .refine ⟨j+1,some (zCB s,false),?_,rfl,by omega⟩;simp only[List.set_cons_zero,List.set_cons_succ,et2,xJ,q0]
  .rintro G ⟨j,b,rfl,eys,hj⟩;have e:j=(DM.zBF ps).length:=by
    have:=congrArg List.length eys;rw[qy,length_drop,length_nil] at this;omega
   subst e;rw[take_length];refine k_nx (zBl ?_);refine⟨i+1,some (zF9 ps,false),b,?_,rfl,by omega⟩;rw[et]
   rfl
  .simp only [take_zero,List.flatMap_nil,append_nil]
 .rintro G ⟨i,a,b,rfl,exs,hi⟩;have e:i=rs.length:=by
   have:=congrArg List.length exs;rw[qy,length_drop,length_nil] at this;omega
  subst e;rw[take_length];refine k_nx ?_;(walk_at "w");exact hQ
noncomputable def rowB (np nt ng:Nat):S:=.cons (.set 2 (.lst .nil)) (.cons (.set 3 (.glob ng "NOUGHT")) (.cons (.for1 4 (.r1 (.bin .Sub (.len (.var 0)) (.int 1))) (.cons (.set 3 (.call np "plus" (.cons (.var 3) (.cons (.call nt "total" (.cons (.ix (.var 0) (.var 4)) .nil)) .nil)))) (.cons (.app 2 (.call np "plus" (.cons (.var 3) (.cons (.call nt "total" (.cons (.ix (.var 1) (.bin .Add (.var 4) (.int 1))) .nil)) .nil)))) .nil))) (.cons (.retOwn 2) .nil)))
def zFO (fs:List (List Rat)):D:=.lst (fs.map zCp)
def zDK (fs:List (List Rat))(j:Nat):Rat:=DM.sumR ((fs.take j).map DM.sumR)
def zMJ (fs gs:List (List Rat))(w:Nat):List Rat:=(List.range w).map λc=>zDK fs (c+1)+DM.sumR (gs.getD (c+1) [])
def RowF (F:List D->Option R):Prop:=∀ (fs gs:List (List Rat)) (w L B:Nat) (Q:R->Prop),fs.length=w+1->gs.length=w+1->w<=6->L<=5000->L*(B+1)<=4000000->(∀ f∈fs,f.length<=L/\∀ q∈f,RB B q)->(∀ f∈gs,f.length<=L/\∀ q∈f,RB B q)->Q (zCp (zMJ fs gs w),.fr)->EvP (F [zFO fs,zFO gs]) Q
theorem zJF (l:L*(B+1)<=4000000)(h:f.length<=L/\∀ q∈f,RB B q):WB f (f.length*(B+1))/\f.length*(B+1)<=4000000/\RB 4000001 (DM.sumR f):=by
 have a:=zNs h.2;have b:f.length*(B+1)<=L*(B+1):=mul_le_mul_right _ h.1;exact⟨a,le_trans b l,(zNr a).mono (Nat.succ_le_succ (le_trans b l))⟩
theorem zHD (e:fs[j]?=some f):zDK fs (j+1)=zDK fs j+DM.sumR f:=by
 unfold zDK;rw[take_add_one,e];show DM.sumR ((fs.take j++[f]).map DM.sumR)=_;rw[xJ,DM.zDw];simp[DM.sumR,Rat.add_zero]
theorem zRT (ep:J.fns[np]?=some (("plus":Str),Fp))(et:J.fns[nt]?=some (("total":Str),Ft))(eg:J.cs[ng]?=some (("NOUGHT":Str),.tup [.int 0,.int 1]))(hp:zI6 Fp)(ht:zLv Ft):RowF (dFun 2 5 (evSs J (rowB np nt ng))):=λfs gs w L B Q lf lg hw hL hLB hf hg hQ=>by
 (walk_at "d");unfold rowB;(walk_at "st");refine zAI ?_;(walk_at "e");refine zAI (zDN (zC3 eg ?_));(walk_at "e");refine zAI (zDc (zJO (zAc (zB5 (zAH rfl (zGM (zAN (zTg ?_))))))));rw[qy,lf];refine⟨_,rfl,by omega,?_⟩;rw[show (((w+1:Nat):Int) - 1).toNat=w by omega];refine zDl (λxs G=>∃ (j:Nat) (o:Option (D×Bool)),G=[some (zFO fs,false),some (zFO gs,false),some (zCp ((List.range j).map λc=>zDK fs (c+1)+DM.sumR (gs.getD (c+1) [])),true),some (ratD (zDK fs j),false),o]/\xs=(rngL 0 w).drop j/\j<=w/\RB (1+j*4000002) (zDK fs j)) ?_ ?_ _ _ ⟨0,none,rfl,rfl,zero_le _,?_⟩
 .rintro x xs G ⟨j,o,rfl,exs,hj,rb⟩;obtain⟨hlt,rfl,rfl⟩:=zRU exs.symm;have ef:fs[j]?=some (fs[j]'(by omega)):=getElem?_eq_getElem (by omega);have eg2:gs[j+1]?=some (gs[j+1]'(by omega)):=getElem?_eq_getElem (by omega);generalize fs[j]'(by omega)=f at ef;generalize gs[j+1]'(by omega)=g at eg2;obtain⟨w1,w2,w3⟩:=zJF hLB (hf f (mem_of_getElem? ef));obtain⟨v1,v2,v3⟩:=zJF hLB (hg g (mem_of_getElem? eg2));have l1:=(hf f (mem_of_getElem? ef)).1;have l2:=(hg g (mem_of_getElem? eg2)).1;have fsc:=zHD ef;have jb:j*4000002<=5*4000002:=mul_le_mul_right _ (by omega);have rb2:RB (1+(j+1)*4000002) (zDK fs (j+1)):=by
   rw[fsc];exact(zD9 rb w3).mono (by rw[Nat.succ_mul];omega)
  have jb2:(j+1)*4000002<=6*4000002:=mul_le_mul_right _ (by omega);refine⟨_,rfl,?_⟩;(walk_at "s");refine zAI ?_;(walk_at "e");refine zA9 (d:=zCp f) (zAn (by rw[List.getElem?_map,ef];rfl)) ?_;(walk_at "e");refine ht f _ _ w1 (by omega) (by omega) ?_;(walk_at "e");rw[<- fsc];refine zAI (zEV rfl (by rw[qy,qy,length_range];omega) ?_);(walk_at "e");refine zA9 (d:=zCp g) (by rw[show (j:Int)+1=((j+1:Nat):Int) by omega];exact zAn (by rw[List.getElem?_map,eg2];rfl)) ?_;(walk_at "e");refine ht g _ _ v1 (by omega) (by omega) ?_;(walk_at "e");refine zBl ?_;refine⟨j+1,some (.int j,false),?_,rfl,by omega,rb2⟩;unfold zCp;rw[range_succ,xJ,xJ];have e:gs.getD (j+1) []=g:=by rw[getD_eq_getElem?_getD,eg2];rfl
  rw[map_cons,map_nil,map_cons,map_nil,e]
 .rintro G ⟨j,o,rfl,exs,hj,rb⟩;obtain rfl:=zOz exs hj;refine k_nx ?_;(walk_at "w");exact hQ
 .exact zCx.mono (by omega)
noncomputable def dz (c r:Int)(z:Pc):Rat:=(if z.r=r/\z.c < c then zCq z else 0)+(if z.r=r/\z.c=c then zC7 z else 0)
def dueZ (zs:List Pc)(c r:Int):Rat:=DM.sumR (zs.map (dz c r))
def rsD (qs:List Rat):D:=.tup (qs.map ratD)
noncomputable def lowL:S:=.cons (.set 4 (.bin .Mod (.var 2) (.var 3))) (.frz 3 (.cons (.set 2 (.var 3)) (.cons (.set 3 (.var 4)) .nil)))
noncomputable def lowB:S:=.cons (.set 2 (.abs (.var 0))) (.cons (.set 3 (.var 1)) (.cons (.whl (.cmp .Gt (.var 3) (.int 0)) lowL) (.cons (.ret (.tup (.cons (.bin .FloorDiv (.var 0) (.var 2)) (.cons (.bin .FloorDiv (.var 1) (.var 2)) .nil)))) .nil)))
def LowF (F:List D->Option R):Prop:=∀ (t b:Int) (Q:R->Prop),0 < b->Q (ratD (Rat.divInt t b),.cl)->EvP (F [.int t,.int b]) Q
theorem zMk :∀ (n:Nat) (a b:Int) (r:Option (D×Bool)),b.toNat<=n->0<=a->0<=b->(∀ r',Q (.nx [x0,x1,some (.int (Int.gcd a b:Int),false),some (.int 0,false),r'])) ->
  EvP (zBb (asB (evE J (.cmp .Gt (.var 3) (.int 0)))) (evSs J lowL) [x0,x1,some (.int a,false),some (.int b,false),r]) Q:=by
 intro n
 induction n with
 | zero =>
  intro a b r hn ha hb q;have e:b=0:=by omega
  subst e;refine zBi (as_b ?_);(walk_at "w");refine zCQ (Int.lt_irrefl 0) ?_;have:(Int.gcd a 0:Int)=a:=by rw[Int.gcd_zero_right];omega
  rw[this] at q;exact q r
 | succ n ih =>
  intro a b r hn ha hb q;by_cases e:b=0
  .subst e;refine zBi (as_b ?_);(walk_at "w");refine zCQ (Int.lt_irrefl 0) ?_;have:(Int.gcd a 0:Int)=a:=by rw[Int.gcd_zero_right];omega
   rw[this] at q;exact q r
  .refine zBi (as_b ?_);(walk_at "w");refine zCc (show 0 < b by omega) ?_;unfold lowL;(walk_at "w");refine zBB e ?_;(walk_at "w");have h1:=xX a (show 0 < b by omega);have h2:=fmod_lt_of_pos a (show 0 < b by omega);refine ih b (a.fmod b) (some (.int (a.fmod b),false)) (by omega) hb h1 λr'=>?_
   rw[DM.zHz ha (by omega)];exact q r'
theorem zSM :LowF (dFun 2 5 (evSs J lowB)):=λt b Q hb h=>by
 (walk_at "d");unfold lowB;(walk_at "st");(walk_at "w");refine zMk _ _ _ none (le_refl _) (Int.natCast_nonneg _) (Int.le_of_lt hb) λr'=>?_
 have eg:((Int.gcd (t.natAbs:Int) b:Nat):Int)=DM.msr t b:=by
  unfold DM.msr;rw[if_neg (by omega)];unfold Int.gcd;simp only[Int.natAbs_natCast]
 rw[eg];refine k_nx ?_;have hz:b≠0:=by omega
 (walk_at "w");refine zCM (DM.zKI hz) ?_;(walk_at "w");refine zCM (DM.zKI hz) ?_;(walk_at "w");rw[DM.zG4 hz,DM.zKK hz];exact h
section
variable {J:Gm}{nr:Nat}{Fr:List D->Option R}
theorem zKV (er:J.fns[nr]?=some (("_law_low":Str),Fr))(hr:LowF Fr):zDo (dFun 2 2 (evSs J (zEr "_law_low" nr))):=λp q m n Q hp hq l h=>by
 (walk_at "d");unfold zEr;refine zAI (zBr (zAM er ?_));(walk_at "w");refine zBA (zBQ hp.num hq.den l) ?_;(walk_at "w");refine zBA (zBQ hq.num hp.den (by omega)) ?_;(walk_at "w");refine zBA (zBQ hp.den hq.den l) ?_;(walk_at "w");refine hr _ _ _ (Int.mul_pos (zEW p) (zEW q)) ?_;rw[<- zJL];(walk_at "w");exact h
theorem zKP (er:J.fns[nr]?=some (("_law_low":Str),Fr))(hr:LowF Fr):zDn (dFun 2 2 (evSs J (zEi "_law_low" nr))):=λp q m n Q hp hq l h=>by
 (walk_at "d");unfold zEi;refine zAI (zBr (zAM er ?_));(walk_at "w");refine zBA (zBQ hp.num hq.num l) ?_;(walk_at "w");refine zBA (zBQ hp.den hq.den l) ?_;(walk_at "w");refine hr _ _ _ (Int.mul_pos (zEW p) (zEW q)) ?_;rw[<- zKG];(walk_at "w");exact h
end
theorem zOa (qs:List Rat):DOk 2 (rsD qs):=zHK (k:=1) λd h=>by
 obtain⟨q,_,rfl⟩:=mem_map.mp h;exact zHL q
def zKy (nw:Nat):S:=.cons (.ife (.orl (.cons (.not (.isi .tuple (.var 2))) (.cons (.cmp .NotEq (.len (.var 2)) (.int 2)) .nil))) (.cons (.ret (.bl false)) .nil) .nil) (.cons (.for1 3 (.it (.var 2)) (.cons (.ife (.not (.call nw "_law_whole" (.cons (.var 3) .nil))) (.cons (.ret (.bl false)) .nil) .nil) .nil)) .nil)
def zKz (nw:Nat):S:=.cons (.ife (.orl (.cons (.not (.isi .tuple (.var 0))) (.cons (.cmp .NotEq (.len (.var 0)) (.len (.var 1))) .nil))) (.cons (.ret (.bl false)) .nil) .nil) (.cons (.for1 2 (.it (.var 0)) (zKy nw)) (.cons (.ret (.cmp .Eq (.var 0) (.var 1))) .nil))
def zOl (F:List D->Option R):Prop:=∀ (qs:List Rat) (Q:R->Prop),Q (.bl true,.cl)->EvP (F [rsD qs,rsD qs]) Q
theorem zEv (ew:J.fns[nw]?=some (("_law_whole":Str),Fw))(hw:zLu Fw):∀ (qs:List Rat) (a b:Option (D×Bool)),(∀ a b,Q (.nx [x0,x1,a,b])) ->
  EvP (forD (tg1 2) (evSs J (zKy nw)) (qs.map ratD) [x0,x1,a,b]) Q
 | [],a,b,h=>zKx (h a b)
 | q::qs,a,b,h=>by
  rw[map_cons];refine zFj rfl ?_;(walk_at "s");unfold zKy;(walk_at "w");refine zCc rfl ?_;(walk_at "w");refine w_tu (ds:=[.int q.num,.int (q.den:Int)]) ?_;refine zFj rfl ?_;(walk_at "s");(walk_at "w");refine hw _ _ ?_;(walk_at "w");refine hw _ _ ?_;(walk_at "w");exact zEv ew hw qs _ _ h
theorem zND (ew:J.fns[nw]?=some (("_law_whole":Str),Fw))(hw:zLu Fw):zOl (dFun 2 4 (evSs J (zKz nw))):=λqs Q h=>by
 (walk_at "d");have eo:=zHJ (zOa qs) (zOa qs) (by decide);unfold zKz;unfold rsD at eo ⊢;(walk_at "st");(walk_at "w");refine zCc rfl ?_;(walk_at "w");refine zEv ew hw qs none none λa b=>?_
 refine k_nx ?_;(walk_at "w");refine c_eq eo ?_;rw[zD2];(walk_at "w");exact h
theorem zHP (h:EvP (evE J el (G.set n (some (z,false)))) λr=>r.2≠.dt/\EvP (zBn (tg1 n) (evC J .nil) (evE J el) zs (G.set n (some (z,false)))) λys=>Q (r.1::ys)):EvP (zBn (tg1 n) (evC J .nil) (evE J el) (z::zs) G) Q:=by
 obtain⟨r,e,nd,ys,e2,q⟩:=h;refine⟨_,?_,q⟩;show (tg1 n z G).bind _=_;unfold tg1 at e2 ⊢;rw[qx,zDb,qx,if_pos rfl,e,qx,if_neg nd];rw[zDb] at e2;rw[e2]
 rfl
theorem zTb (h:Q []):EvP (zBn (tg1 n) (evC J .nil) (evE J el) [] G) Q:=⟨_,rfl,h⟩
noncomputable def zO3 (nm n1:Nat):S:=.cons (.ret (.call nm "minus" (.cons (.glob n1 "ONE") (.cons (.var 0) .nil)))) .nil
def zNn (F:List D->Option R):Prop:=∀ (q:Rat) (n:Nat) (Q:R->Prop),RB n q->n<=50000000->Q (ratD (1 - q),.cl)->EvP (F [ratD q]) Q
theorem zO2 (em:J.fns[nm]?=some (("minus":Str),Fm))(e1:J.cs[n1]?=some (("ONE":Str),.tup [.int 1,.int 1]))(hm:zDo Fm):zNn (dFun 1 1 (evSs J (zO3 nm n1))):=λq n Q hq l h=>by
 (walk_at "d");unfold zO3;(walk_at "st");refine zAI (zBr (zAM em (zAD (zC3 e1 ?_))));rw[zPU];(walk_at "w");exact h
def zPh (nt:Nat):S:=.cons (.ret (.tupl (.comp1 2 [] "part" (.it (.var 0)) .nil (.call nt "times" (.cons (.var 2) (.cons (.var 1) .nil)))))) .nil
def zQ7 (F:List D->Option R):Prop:=∀ (d:D) (qs:List Rat) (r:Rat) (m n:Nat) (Q:R->Prop),(d=rsD qs\/d=.lst (qs.map ratD))->qs.length<=100->(∀ q∈qs,RB m q)->RB n r->m+n<=60000000->Q (rsD (qs.map (·*r)),.cl)->EvP (F [d,ratD r]) Q
theorem zPg (et:J.fns[nt]?=some (("times":Str),Ft))(ht:zDn Ft):zQ7 (dFun 2 2 (evSs J (zPh nt))):=λd qs r m n Q hd hl hq hr l h=>by
 (walk_at "d");unfold zPh;(walk_at "st");refine zAI (zBr (zK4 (zDM (zJP (zAH rfl ?_)))));refine⟨qs.map ratD,(λz=>nomatch z),?_,?_⟩
 .rcases hd with rfl | rfl
  .exact .inr rfl
  .exact .inl rfl
 refine⟨by rw[qy];omega,?_⟩;refine zLb (J:=J) (base:=[some (d,false),some (ratD r,false)]) rfl ratD (λq=>ratD (q*r)) qs none ?_ ?_
 .intro q hm;have hq':=hq q hm;refine zAM et ?_;show EvP (evEs J _ [some (d,false),some (ratD r,false),some (ratD q,false)]) _;(walk_at "w")
  rfl
 .refine zRE ?_;(walk_at "w");unfold rsD at h;rw[map_map] at h;exact h
structure Fm where
 k:Rat
 a:Rat
 r:Rat
 g:Rat
 b:Rat
noncomputable def fmD (f:Fm):D:=rsD [f.k,f.a,f.r,f.g,f.b]
theorem zTr:(10:Int)^(20:Int).toNat=100000000000000000000:=by decide
noncomputable def zGR (nl:Nat):S:=.cons (.set 1 (.bin .Add (.int 1) (.bin .Mod (.var 0) (.int 12)))) (.cons (.set 2 (.bin .FloorDiv (.var 0) (.int 12))) (.cons (.ife (.cmp .Eq (.bin .Mod (.var 2) (.int 8)) (.int 5)) (.cons (.set 1 (.bin .Add (.int 1) (.bin .Mod (.bin .FloorDiv (.var 2) (.int 8)) (.bin .Pow (.int 10) (.int 20))))) .nil) .nil) (.cons (.set 3 (.bin .Mod (.var 2) (.int 7))) (.cons (.ife (.cmp .Eq (.var 3) (.int 0)) (.cons (.ret (.tup (.cons (.int 0) (.cons (.int 1) .nil)))) .nil) .nil) (.cons (.ife (.cmp .Eq (.var 3) (.int 1)) (.cons (.ret (.tup (.cons (.int 1) (.cons (.int 1) .nil)))) .nil) .nil) (.cons (.ret (.call nl "_law_low" (.cons (.bin .Mod (.bin .Mult (.bin .FloorDiv (.var 2) (.int 9)) (.int 48271)) (.bin .Add (.var 1) (.int 1))) (.cons (.var 1) .nil)))) .nil))))))
def zOk (F:List D->Option R):Prop:=∀ (c:Int) (Q:R->Prop),(∀ q:Rat,RB 80 q->0<=q->q<=1->Q (ratD q,.cl))->EvP (F [.int c]) Q
theorem zNZ (hb:0 < b)(h0:0<=t)(h1:t<=b):0<=Rat.divInt t b/\Rat.divInt t b<=1:=by
 refine⟨Rat.divInt_nonneg h0 (Int.le_of_lt hb),?_⟩;have hz:b≠0:=by omega
 have c:=(DM.zUc hz (Rat.divInt t b)).mp rfl;have dp:=zEW (Rat.divInt t b);rw[Rat.le_iff];show (Rat.divInt t b).num*1<=1*((Rat.divInt t b).den:Int);rw[Int.mul_one,Int.one_mul];refine Int.le_of_mul_le_mul_right ?_ hb;rw[c,Int.mul_comm];exact Int.mul_le_mul_of_nonneg_left h1 (Int.le_of_lt dp)
theorem zNB (el:J.fns[nl]?=some (("_law_low":Str),Fl))(hl:LowF Fl):zOk (dFun 1 4 (evSs J (zGR nl))):=λc Q h=>by
 (walk_at "d");unfold zGR;(walk_at "st");have last:∀ (b r:Int),1<=b->b<=100000000000000000000->EvP (evSs J (S.tail 3 (zGR nl)) [some (.int c,false),some (.int b,false),some (.int r,false),none]) (Kd' Q):=λb r b1 b2=>by
  unfold zGR;simp only[S.tail];(walk_at "w");refine zBB (by decide) ?_;(walk_at "w");refine zBE (λ_=>?_) λ_=>?_
  ·(walk_at "w");exact h 0 (zCx.mono (by decide)) (by decide) (by decide)
  (walk_at "w");refine zBE (λ_=>?_) λ_=>?_
  ·(walk_at "w");exact h 1 (zDe.mono (by decide)) (by decide) (by decide)
  (walk_at "w");refine zCM (zBZ (by decide) (by decide)) ?_;(walk_at "w");refine zBA (zEq (by decide)) ?_;(walk_at "w");refine zBB (by omega) ?_;(walk_at "w");have a1:=xX (Int.fdiv r 9*48271) (show 0 < b+1 by omega);have a2:=fmod_lt_of_pos (Int.fdiv r 9*48271) (show 0 < b+1 by omega);refine hl _ _ _ (by omega) ?_;(walk_at "w");have bb:Bd 80 b:=zCY (k:=100000000000000000000) (by omega) (by decide);have u:=zNZ (show 0 < b by omega) a1 (by omega);exact h _ (zEl (by omega) (zCY (k:=100000000000000000001) (by omega) (by decide)) bb) u.1 u.2
 refine zAI ?_;(walk_at "e");refine zBB (by decide) ?_;(walk_at "e");have c1:=xX c (show (0:Int) < 12 by decide);have c2:=fmod_lt_of_pos c (show (0:Int) < 12 by decide);refine zAI ?_;(walk_at "e");refine zCM (zBZ (by decide) (by decide)) ?_;(walk_at "e");refine zAI ?_;(walk_at "e");refine zBB (by decide) ?_;(walk_at "e");refine zBE (λ_=>?_) λ_=>?_
 .refine zAI ?_;(walk_at "e");refine zCM (zBZ (by decide) (by decide)) ?_;(walk_at "e");refine zUe ⟨by decide,by decide,by decide⟩ ?_;rw[zTr];refine zBB (by decide) ?_;(walk_at "e");refine zBl (k_nx ?_);have d1:=xX ((c.fdiv 12).fdiv 8) (show (0:Int) < 100000000000000000000 by decide);have d2:=fmod_lt_of_pos ((c.fdiv 12).fdiv 8) (show (0:Int) < 100000000000000000000 by decide);exact last _ _ (by omega) (by omega)
 .refine zBl (k_nx ?_);exact last _ _ (by omega) (by omega)
def inkD (r g b:Int):D:=.tup [.int r,.int g,.int b]
noncomputable def inkB (nr nm:Nat):S:=.cons (.ret (.bin .Add (.tup (.cons (.call nr "rest_of" (.cons (.var 0) .nil)) (.cons (.var 0) .nil))) (.call nm "multiplied" (.cons (.comp1 2 [] "part" (.it (.var 1)) .nil (.tup (.cons (.var 2) (.cons (.int 1) .nil)))) (.cons (.var 0) .nil))))) .nil
def zC1 (s:Rat)(r g b:Int):Fm:=⟨1 - s,s,(r:Rat)*s,(g:Rat)*s,(b:Rat)*s⟩
theorem zEu {i:Int}(h0:0<=i)(h1:i<=255):RB 8 (i:Rat):=zD8 (zCY (k:=255) (by omega) (by decide)) (by decide)
def InkF (F:List D->Option R):Prop:=∀ (s:Rat) (r g b:Int) (n:Nat) (Q:R->Prop),RB n s->n<=10000000->(0<=r/\r<=255)->(0<=g/\g<=255)->(0<=b/\b<=255)->Q (fmD (zC1 s r g b),.cl)->EvP (F [ratD s,inkD r g b]) Q
theorem b_tt (l:(x::xs).length+(y::ys).length<=10000)(h:Q (.tup ((x::xs)++(y::ys)),.cl)):EvP (binD .Add (.tup (x::xs)) (.tup (y::ys))) Q:=⟨_,if_pos l,h⟩
theorem zSY {Fm:List D->Option R}(er:J.fns[nr]?=some (("rest_of":Str),Fr))(em:J.fns[nm]?=some (("multiplied":Str),Fm))(hr:zNn Fr)(hm:zQ7 Fm):InkF (dFun 2 2 (evSs J (inkB nr nm))):=λs r g b n Q hs l h1 h2 h3 h=>by
 (walk_at "d");unfold inkB inkD;(walk_at "st");(walk_at "w");refine hr s n _ hs (by omega) ?_;(walk_at "w");refine zHP ?_;simp only[mask,cons_append,nil_append,List.set_cons_zero,List.set_cons_succ];(walk_at "w");refine zHP ?_;(walk_at "s");(walk_at "w");refine zHP ?_;(walk_at "s");(walk_at "w");refine zTb ?_;(walk_at "w");refine⟨(λz=>nomatch z),?_⟩;(walk_at "w");refine hm _ [(r:Rat),(g:Rat),(b:Rat)] s 8 n _ (.inr rfl) (zzb rfl) ?_ hs (by omega) ?_
 .intro q hq;simp only[mem_cons,not_mem_nil,or_false] at hq;rcases hq with rfl | rfl | rfl
  .exact zEu h1.1 h1.2
  .exact zEu h2.1 h2.2
  .exact zEu h3.1 h3.2
 (walk_at "w");refine b_tt (zzb rfl) ?_;(walk_at "w");exact h
noncomputable def rubB (nr n0:Nat):S:=.cons (.ret (.tup (.cons (.call nr "rest_of" (.cons (.var 0) .nil)) (.cons (.glob n0 "NOUGHT") (.cons (.glob n0 "NOUGHT") (.cons (.glob n0 "NOUGHT") (.cons (.glob n0 "NOUGHT") .nil))))))) .nil
def RubF (F:List D->Option R):Prop:=∀ (s:Rat) (n:Nat) (Q:R->Prop),RB n s->n<=10000000->Q (fmD ⟨1 - s,0,0,0,0⟩,.cl)->EvP (F [ratD s]) Q
theorem zRS (er:J.fns[nr]?=some (("rest_of":Str),Fr))(e0:J.cs[n0]?=some (("NOUGHT":Str),.tup [.int 0,.int 1]))(hr:zNn Fr):RubF (dFun 1 1 (evSs J (rubB nr n0))):=λs n Q hs l h=>by
 (walk_at "d");unfold rubB;(walk_at "st");(walk_at "w");refine hr s n _ hs (by omega) ?_;(walk_at "w");exact h
end DL
end
section
namespace DL
open PySem Spec PyProof.Rows L2
inductive W where
 | dat (d:D) | loc (n:Nat) | tup (l:List W) | obj (c:Str) (ns:List Str) (l:List W)
noncomputable instance:Inhabited W:=⟨.dat .non⟩
abbrev Mem:=List (List W)
noncomputable def fzH (H:Hp):Hp:=λb=>match H b with
 | some (.tup xs)=>some (.tup xs)
 | some (.frz o u)=>some (.frz o u)
 | some (.dT kvs)=>some (.dT kvs)
 | some (.ins C dx fs)=>some (.ins C dx fs)
 | _=>none
theorem zBT :Same (fzH H) H:=λb o h=>by
 unfold fzH at h;split at h
 .rename_i e;cases h;exact e
 .rename_i e;cases h;exact e
 .rename_i e;cases h;exact e
 .rename_i e;cases h;exact e
 .cases h
theorem zOT (h:H a=some (.tup xs)):fzH H a=some (.tup xs):=by unfold fzH;rw[h]
theorem zEP (h:H a=some (.frz o u)):fzH H a=some (.frz o u):=by unfold fzH;rw[h]
theorem zOU (h:H a=some (.dT kvs)):fzH H a=some (.dT kvs):=by unfold fzH;rw[h]
theorem zGQ (h:H a=some (.ins C dx fs)):fzH H a=some (.ins C dx fs):=by unfold fzH;rw[h]
theorem zBX (h:Same H H'):Same (fzH H) (fzH H'):=λb o q=>by
 have e:=h _ _ (zBT _ _ q);unfold fzH at q;split at q
 .cases q;exact zOT e
 .cases q;exact zEP e
 .cases q;exact zOU e
 .cases q;exact zGQ e
 .cases q
theorem zKv (h:H a=some (.lst xs)):fzH (upd H a (.lst ys))=fzH H:=by
 funext b;unfold fzH;by_cases e:b=a
 .subst e;rw[zAh,h]
 .rw [zAP e]
abbrev Kp (H H':Hp):Prop:=Same (fzH H) (fzH H')
theorem zRL {K:W.Frag}(h:SqT K H a xs):SqT K (fzH H) a xs:=by
 rcases h with (h | ⟨o,h⟩) | h
 .exact .inl (.inl (zOT h))
 .exact .inl (.inr ⟨o,zEP h⟩)
 .exact .inr h
mutual
noncomputable def noL:D->Bool
 | .lst _=>false
 | .tup ds=>noLs ds
 | .lam _ _ ds=>noLs ds
 | .obj _ _ ds=>noLs ds
 | _=>true
noncomputable def noLs:List D->Bool
 | []=>true
 | d::ds=>noL d&&noLs ds
end
section
variable {K:W.Frag}{H:Hp}
mutual
theorem Den.fz:∀ {d:D} {v:V},noL d=true->Den K H d v->Den K (fzH H) d v
 | .non,_,_,h=>by rw[Den] at h ⊢;exact h
 | .bl _,_,_,h=>by rw[Den] at h ⊢;exact h
 | .int _,_,_,h=>by rw[Den] at h ⊢;exact h
 | .str _,_,_,h=>by rw[Den] at h ⊢;exact h
 | .lst _,_,n,_=>by rw[noL] at n;cases n
 | .tup ds,_,n,h=>by
  rw[noL] at n;rw[Den] at h ⊢;obtain⟨a,vs,h1,h2,h3⟩:=h;exact⟨a,vs,h1,zRL h2,DenL.fz n h3⟩
 | .exc c,_,_,h=>by
  rw[Den] at h ⊢;obtain⟨a,o,u,C,h1,h2,h3⟩:=h;exact⟨a,o,u,C,h1,zEP h2,h3⟩
 | .dct ks,_,_,h=>by
  rw[Den] at h ⊢;obtain⟨a,kvs,h1,h2,h3⟩:=h;exact⟨a,kvs,h1,zOU h2,h3⟩
 | .lam _ L ds,_,n,h=>by
  rw[noL] at n;rw[Den] at h ⊢;obtain⟨a,vs,h1,⟨cl,pm,c,ctv,oc,u1,g1,g2,g3,g4,g5,g6⟩,h3⟩:=h;exact⟨a,vs,h1,⟨cl,pm,c,ctv,oc,u1,zEP g1,zEP g2,g3,g4,g5,Paired.mapP g6 λ_ _ zy134=>by obtain⟨o,u,k1,k2⟩:=zy134;exact⟨o,u,zEP k1,k2⟩⟩,DenL.fz n h3⟩
 | .obj _ ns ds,_,n,h=>by
  rw[noL] at n;rw[Den] at h ⊢;obtain⟨a,vs,h1,⟨C,dx,gs,g1,g2⟩,h3⟩:=h;exact⟨a,vs,h1,⟨C,dx,gs,zGQ g1,g2⟩,DenL.fz n h3⟩
 | .fn _ _,_,_,h=>by rw[Den] at h ⊢;exact h
theorem DenL.fz:∀ {ds:List D} {vs:List V},noLs ds=true->DenL K H ds vs->DenL K (fzH H) ds vs
 | [],_,_,h=>by rw[DenL] at h ⊢;exact h
 | d::ds,_,n,h=>by
  rw[noLs,x9] at n;rw[DenL] at h ⊢;obtain⟨v,ws,h1,h2,h3⟩:=h;exact⟨v,ws,h1,Den.fz n.1 h2,DenL.fz n.2 h3⟩
end
end
mutual
noncomputable def DenW (K:W.Frag)(H:Hp)(U:List Addr):W->V->Prop
 | .dat d,v=>Den K (fzH H) d v
 | .loc n,v=>∃ a,U[n]?=some a/\v=.ref a
 | .tup ws,v=>∃ a vs,v=.ref a/\SqT K (fzH H) a vs/\DenWL K H U ws vs
 | .obj c ns ws,v=>∃ a vs,v=.ref a/\zL0 K (fzH H) c ns a vs/\DenWL K H U ws vs
noncomputable def DenWL (K:W.Frag)(H:Hp)(U:List Addr):List W->List V->Prop
 | [],vs=>vs=[]
 | w::ws,vs=>∃ v us,vs=v::us/\DenW K H U w v/\DenWL K H U ws us
end
section
variable {K:W.Frag}{H H':Hp}{U:List Addr}
mutual
theorem DenW.monoF (e:zCr (fzH H) (fzH H'))(M:List Addr):∀ {w:W} {v:V},DenW K H U w v->DenW K H' (U++M) w v
 | .dat _,_,h=>by rw[DenW] at h ⊢;exact h.monoF e
 | .loc n,_,h=>by
  rw[DenW] at h ⊢;obtain⟨a,h1,h2⟩:=h;exact⟨a,by rw[getElem?_append_left (zzg h1).1];exact h1,h2⟩
 | .tup ws,_,h=>by
  rw[DenW] at h ⊢;obtain⟨a,vs,h1,h2,h3⟩:=h;exact⟨a,vs,h1,zCr.tupS e h2,DenWL.monoF e M h3⟩
 | .obj c ns ws,_,h=>by
  rw[DenW] at h ⊢;obtain⟨a,vs,h1,h2,h3⟩:=h;exact⟨a,vs,h1,h2.monoF e,DenWL.monoF e M h3⟩
theorem DenWL.monoF (e:zCr (fzH H) (fzH H'))(M:List Addr):∀ {ws:List W} {vs:List V},DenWL K H U ws vs->DenWL K H' (U++M) ws vs
 | [],_,h=>by rw[DenWL] at h ⊢;exact h
 | w::ws,_,h=>by
  rw[DenWL] at h ⊢;obtain⟨v,us,h1,h2,h3⟩:=h;exact⟨v,us,h1,DenW.monoF e M h2,DenWL.monoF e M h3⟩
end
theorem DenW.mono (e:Kp H H')(M:List Addr)(h:DenW K H U w v):DenW K H' (U++M) w v:=h.monoF (λb o q _=>e b o q) M
theorem DenWL.mono (e:Kp H H')(M:List Addr)(h:DenWL K H U ws vs):DenWL K H' (U++M) ws vs:=h.monoF (λb o q _=>e b o q) M
theorem DenW.keep (e:Kp H H')(h:DenW K H U w v):DenW K H' U w v:=by
 have:=h.mono e [];rwa [append_nil] at this
theorem DenWL.keep (e:Kp H H')(h:DenWL K H U ws vs):DenWL K H' U ws vs:=by
 have:=h.mono e [];rwa [append_nil] at this
theorem DenWL.nil:DenWL K H U [] []:=by rw[DenWL]
theorem DenWL.cons (h:DenW K H U w v)(t:DenWL K H U ws vs):DenWL K H U (w::ws) (v::vs):=by
 rw[DenWL];exact⟨v,vs,rfl,h,t⟩
theorem DenWL.length:∀ {ws:List W} {vs:List V},DenWL K H U ws vs->ws.length=vs.length
 | [],_,h=>by rw[DenWL] at h;rw[h];rfl
 | _::ws,_,h=>by
  rw[DenWL] at h;obtain⟨v,us,h1,h2,h3⟩:=h;rw[h1,xY,xY,DenWL.length h3]
theorem DenWL.get:∀ {ws:List W} {vs:List V} {i:Nat} {w:W},DenWL K H U ws vs->ws[i]?=some w->∃ v,vs[i]?=some v/\DenW K H U w v
 | [],_,_,_,_,e=>by simp at e
 | x::ws,_,i,w,h,e=>by
  rw[DenWL] at h;obtain⟨v,us,h1,h2,h3⟩:=h;subst h1;cases i with
  | zero=>simp at e;subst e;exact⟨v,by simp,h2⟩
  | succ i =>
   obtain⟨u,q1,q2⟩:=DenWL.get (i:=i) (w:=w) h3 (by simpa using e);exact⟨u,by simpa using q1,q2⟩
theorem DenWL.append:∀ {ws xs:List W} {vs us:List V},DenWL K H U ws vs->DenWL K H U xs us->DenWL K H U (ws++xs) (vs++us)
 | [],_,_,_,h,t=>by rw[DenWL] at h;subst h;exact t
 | _::ws,_,_,_,h,t=>by
  rw[DenWL] at h;obtain⟨v,us',h1,h2,h3⟩:=h;subst h1;exact .cons h2 (DenWL.append h3 t)
theorem DenWL.set (hw:DenW K H U w v):∀ {ws:List W} {vs:List V} (n:Nat),DenWL K H U ws vs->DenWL K H U (ws.set n w) (vs.set n v)
 | [],_,n,h=>by rw[DenWL] at h;subst h;exact .nil
 | _::ws,_,n,h=>by
  rw[DenWL] at h;obtain⟨u,us,h1,h2,h3⟩:=h;subst h1;cases n with
  | zero=>exact .cons hw h3
  | succ n=>exact .cons h2 (DenWL.set hw n h3)
theorem DenWL.dats:∀ {ds:List D} {vs:List V},DenL K (fzH H) ds vs->DenWL K H U (ds.map .dat) vs
 | [],_,h=>by rw[DenL] at h;subst h;exact .nil
 | d::ds,_,h=>by
  rw[DenL] at h;obtain⟨v,us,h1,h2,h3⟩:=h;subst h1;exact .cons (by rw[DenW];exact h2) (DenWL.dats h3)
end
structure zAL (K:W.Frag)(H:Hp)(U:List Addr)(O:Mem):Prop where
 len:U.length=O.length
 nd:U.Nodup
 at_:∀ (n:Nat) ws,O[n]?=some ws->∃ a vs,U[n]?=some a/\H a=some (.lst vs)/\DenWL K H U ws vs
structure MS (K:W.Frag)(H:Hp)(U:List Addr)(O:Mem)(B:St)(G:List (Option W)):Prop where
 cells:zAL K H U O
 len:B.length=G.length
 get:∀ (i:Nat) w,G[i]?=some (some w)->∃ v,B[i]?=some (some v)/\DenW K H U w v
section
variable {K:W.Frag}{H H':Hp}{U:List Addr}{O:Mem}
theorem zAL.same (h:zAL K H U O)(e:Same H H'):zAL K H' U O :=
 ⟨h.len,h.nd,λn ws q=>let ⟨a,vs,h1,h2,h3⟩:=h.at_ n ws q;⟨a,vs,h1,e _ _ h2,h3.keep (zBX e)⟩⟩
theorem zAL.new (h:zAL K H U O)(e:Same H H')(n:H a=none)(ha:H' a=some (.lst vs))(t:DenWL K H' (U++[a]) ws vs):zAL K H' (U++[a]) (O++[ws]):=by
 refine⟨by rw[qQ,qQ,h.len];rfl,?_,λm xs q=>?_⟩
 .rw [List.nodup_append];refine⟨h.nd,by simp,λb hb c hc=>?_⟩;rw[mem_singleton.mp hc];rintro rfl;obtain⟨i,hi,ei⟩:=List.mem_iff_getElem.mp hb;obtain⟨a',vs',q1,q2,_⟩:=h.at_ i _ (getElem?_eq_getElem (show i < O.length by rw[<- h.len];exact hi));rw[getElem?_eq_getElem hi,ei] at q1;cases q1;rw[n] at q2;cases q2
 .by_cases lt:m < O.length
  .rw [getElem?_append_left lt] at q;obtain⟨b,us,q1,q2,q3⟩:=h.at_ m xs q;exact⟨b,us,by rw[getElem?_append_left (by rw[h.len];exact lt)];exact q1,e _ _ q2,q3.mono (zBX e) [a]⟩
  .rw [getElem?_append_right (by omega)] at q;have em:m - O.length=0:=by
    have:=(zzg q).1;simp at this;omega
   rw[em] at q;cases q;exact⟨a,vs,by rw[getElem?_append_right (by rw[h.len];omega),h.len,em];rfl,ha,t⟩
theorem zAL.change (h:zAL K H U O)(hn:n < O.length)(ha:U[n]?=some a)(hv:H a=some (.lst us))(t:DenWL K H U ws vs):zAL K (upd H a (.lst vs)) U (O.set n ws):=by
 have kp:Kp H (upd H a (.lst vs)):=by show Same _ _;rw[zKv hv];exact Same.refl _
 refine⟨by rw[length_set];exact h.len,h.nd,λm xs q=>?_⟩;by_cases e:n=m
 .subst e;rw[getElem?_set_self hn] at q;cases q;exact⟨a,vs,ha,zAh,t.keep kp⟩
 .rw [getElem?_set_ne e] at q;obtain⟨b,us',q1,q2,q3⟩:=h.at_ m xs q;have ne:b≠a:=by
   rintro rfl;have l1:=(zzg ha);have l2:=(zzg q1);obtain⟨i1,e1⟩:=l1;obtain⟨i2,e2⟩:=l2;have pw:=List.pairwise_iff_getElem.mp h.nd;rcases Nat.lt_or_gt_of_ne e with lt | lt
   .exact pw n m i1 i2 lt (e1.trans e2.symm)
   .exact pw m n i2 i1 lt (e2.trans e1.symm)
  exact⟨b,us',q1,by rw[zAP ne];exact q2,q3.keep kp⟩
theorem MS.next (h:MS K H U O B G)(e:Kp H H')(c:zAL K H' (U++M) O1):MS K H' (U++M) O1 B G :=
 ⟨c,h.len,λi w q=>let ⟨v,q1,q2⟩:=h.get i w q;⟨v,q1,q2.mono e M⟩⟩
theorem MS.set (h:MS K H U O B G)(hw:DenW K H U w v):MS K H U O (B.set i (some v)) (G.set i (some w)):=by
 refine⟨h.cells,by rw[length_set,length_set];exact h.len,λj x q=>?_⟩;rcases zAZ q with ⟨rfl,z,hl⟩ | ⟨ne,z⟩
 .cases z;exact⟨v,zBH (by rw[h.len];exact hl),hw⟩
 .obtain ⟨u,q1,q2⟩:=h.get j x z;exact⟨u,by rw[zA4 ne];exact q1,q2⟩
end
noncomputable def datA:List Str->List W->List (Str×D)
 | n::ns,.dat d::ws=>(n,d)::datA ns ws
 | _::ns,_::ws=>datA ns ws
 | _,_=>[]
def dobj (c:Str)(ns:List Str)(ws:List W):D:=.obj c ((datA ns ws).map (·.1)) ((datA ns ws).map (·.2))
theorem zIE {K:W.Frag}{gs:List (Str×V)}:∀ {ns:List Str} {ws:List W} {vs:List V},(ns.map λn=>gs.lookup n)=vs.map some->DenWL K H U ws vs->∃ us,(((datA ns ws).map (·.1)).map λn=>gs.lookup n)=us.map some/\DenL K (fzH H) ((datA ns ws).map (·.2)) us
 | [],ws,_,_,_=>⟨[],by unfold datA;rfl,by unfold datA;exact .nil⟩
 | _::_,[],_,_,_=>⟨[],rfl,.nil⟩
 | n::ns,w::ws,vs,h,t=>by
  rw[DenWL] at t;obtain⟨v,us,rfl,t1,t2⟩:=t;simp only[map_cons,List.cons.injEq] at h;obtain⟨zs,z1,z2⟩:=zIE h.2 t2;cases w with
  | dat d =>
   rw[DenW] at t1;refine⟨v::zs,?_,.cons t1 z2⟩;show gs.lookup n::_=some v::_;rw[h.1,<- z1]
  | loc _=>exact⟨zs,z1,z2⟩
  | tup _=>exact⟨zs,z1,z2⟩
  | obj _ _ _=>exact⟨zs,z1,z2⟩
theorem zID {K:W.Frag}(h:DenW K H U (.obj c ns ws) v):Den K (fzH H) (dobj c ns ws) v:=by
 rw[DenW] at h;obtain⟨a,vs,rfl,⟨C,dx,gs,h1,h2,h3,h4⟩,h5⟩:=h;obtain⟨us,u1,u2⟩:=zIE h4 h5;unfold dobj;rw[Den];exact⟨a,us,rfl,⟨C,dx,gs,h1,h2,h3,u1⟩,u2⟩
mutual
noncomputable def sbW (f:Nat->Option D):W->Option D
 | .dat d=>some d
 | .loc n=>f n
 | .tup ws=>(sbL f ws).map .tup
 | .obj c ns ws=>some (dobj c ns ws)
noncomputable def sbL (f:Nat->Option D):List W->Option (List D)
 | []=>some []
 | w::ws=>(sbW f w).bind λd=>(sbL f ws).map λds=>d::ds
end
noncomputable def drN (O:Mem):Nat->Nat->Option D
 | 0,_=>none
 | k+1,n=>(O[n]?).bind λws=>(sbL (drN O k) ws).map .lst
def drW (O:Mem)(w:W):Option D:=sbW (drN O 6) w
def drS (O:Mem)(G:List (Option W)):Dst:=G.map λo=>o.bind λw=>(drW O w).map λd=>(d,false)
section
variable {K:W.Frag}{H:Hp}{U:List Addr}{O:Mem}
mutual
theorem zNz {f:Nat->Option D}(hf:∀ n d a,f n=some d->U[n]?=some a->Den K H d (.ref a)):∀ {w:W} {v:V} {d:D},DenW K H U w v->sbW f w=some d->Den K H d v
 | .dat x,v,d,h,e=>by
  rw[sbW] at e;cases e;rw[DenW] at h;exact h.mono zBT
 | .loc n,v,d,h,e=>by
  rw[sbW] at e;rw[DenW] at h;obtain⟨a,h1,rfl⟩:=h;exact hf n d a e h1
 | .tup ws,v,d,h,e=>by
  rw[sbW] at e;obtain⟨ds,e1,rfl⟩:=yq.mp e;rw[DenW] at h;obtain⟨a,vs,rfl,h2,h3⟩:=h;rw[Den];exact⟨a,vs,rfl,Same.tupS zBT h2,sb_denL hf h3 e1⟩
 | .obj c ns ws,v,d,h,e=>by
  rw[sbW] at e;cases e;exact(zID h).mono zBT
theorem sb_denL {f:Nat->Option D}(hf:∀ n d a,f n=some d->U[n]?=some a->Den K H d (.ref a)):∀ {ws:List W} {vs:List V} {ds:List D},DenWL K H U ws vs->sbL f ws=some ds->DenL K H ds vs
 | [],_,_,h,e=>by
  rw[sbL] at e;cases e;rw[DenWL] at h;subst h;exact .nil
 | w::ws,_,_,h,e=>by
  rw[sbL] at e;obtain⟨d,e1,e⟩:=bind_some e;obtain⟨ds,e2,rfl⟩:=yq.mp e;rw[DenWL] at h;obtain⟨v,us,rfl,h2,h3⟩:=h;exact .cons (zNz hf h2 e1) (sb_denL hf h3 e2)
end
theorem zLT (c:zAL K H U O):∀ (k n:Nat) (d:D) (a:Addr),drN O k n=some d->U[n]?=some a->Den K H d (.ref a)
 | 0,_,_,_,e,_=>by cases e
 | k+1,n,d,a,e,ha=>by
  obtain⟨ws,e1,e⟩:=bind_some e;obtain⟨ds,e2,rfl⟩:=yq.mp e;obtain⟨b,vs,q1,q2,q3⟩:=c.at_ n ws e1;rw[ha] at q1;cases q1;rw[Den];exact⟨a,vs,rfl,SqL.of q2,sb_denL (zLT c k) q3 e2⟩
theorem zTV (c:zAL K H U O)(h:DenW K H U w v)(e:drW O w=some d):Den K H d v:=zNz (zLT c 6) h e
theorem zLQ (h:MS K H U O B G):DS K H [] B (drS O G):=by
 refine⟨by unfold drS;rw[qy];exact h.len,λa z=>absurd z (by simp),λi d o q=>?_,λi j d e a q1 q2 _ _=>?_⟩
 .unfold drS at q;rw[List.getElem?_map] at q;obtain⟨x,e1,e2⟩:=yq.mp q;obtain⟨w,rfl,e2⟩:=bind_some e2;obtain⟨d',e3,e4⟩:=yq.mp e2;cases e4;obtain⟨v,q1,q2⟩:=h.get i w e1;exact⟨v,q1,.of_den (by rw[zBe];exact zTV h.cells q2 e3)⟩
 .unfold drS at q1;rw[List.getElem?_map] at q1;obtain⟨x,e1,e2⟩:=yq.mp q1;obtain⟨w,rfl,e2⟩:=bind_some e2;obtain⟨d',e3,e4⟩:=yq.mp e2;cases e4
end
structure Mst where
 G:List (Option W)
 O:Mem
abbrev MR:=W×Mem
def gM (K:W.Frag)(g:Mst->Option MR):TE:=λB H Q=>∃ U G O r,MS K H U O B G/\g ⟨G,O⟩=some r/\∀ v H' M,Kp H H'->zAL K H' (U++M) r.2->DenW K H' (U++M) r.1 v->Q v H'
def GM (X:Cx)(e:Expr)(g:Mst->Option MR):Prop:=PE X e (gM X.K g)
def zHU (r:R)(O:Mem):Option MR:=match r with
 | (d,.cl)=>if noL d=true then some (.dat d,O) else none
 | (.lst es,.fr)=>if noLs es=true then some (.loc O.length,O++[es.map .dat]) else none
 | _=>none
def zMm (f:Dst->Option R):Mst->Option MR:=λs=>(f (drS s.O s.G)).bind λr=>zHU r s.O
theorem zNl {K:W.Frag}(c:zAL K H U O)(e:Same H H')(h:RV K H H' [] r v)(q:zHU r O=some z):∃ M,zAL K H' (U++M) z.2/\DenW K H' (U++M) z.1 v:=by
 unfold zHU at q;split at q
 .rename_i d;by_cases n:noL d=true
  .rw [if_pos n] at q;cases q;refine⟨[],by rw[append_nil];exact c.same e,?_⟩;rw[DenW];have h':Den K (hide H' []) d v:=h;rw[zBe] at h';exact h'.fz n
  .rw [if_neg n] at q;cases q
 .rename_i es;by_cases n:noLs es=true
  .rw [if_pos n] at q;cases q;obtain⟨a,vs,ds,rfl,e2,_,e4,e5,t⟩:=h;cases e2;have t':DenL K (fzH H') es vs:=(t.mono zAq).fz n;refine⟨[a],c.new e e4 e5 (DenWL.dats t'),?_⟩;rw[DenW];exact⟨a,by show (U++[a])[O.length]?=_;rw[getElem?_append_right (by rw[c.len];omega),c.len,sub_self];rfl,rfl⟩
  .rw [if_neg n] at q;cases q
 .cases q
theorem zQE (h:GE X e f):GM X e (zMm f):=h.imp λB H Q zz82=>by
 obtain⟨U,G,O,z,ms,q,c⟩:=zz82;obtain⟨r,er,q⟩:=bind_some q;refine⟨[],drS O G,r,zLQ ms,er,λv H' s1 r1=>?_⟩;obtain⟨M,c1,d1⟩:=zNl ms.cells s1 r1 q;exact c v H' M (zBX s1) c1 d1
section
variable {X:Cx}
theorem Kp.refl (H:Hp):Kp H H:=Same.refl _
noncomputable def varM (i:Nat):Mst->Option MR:=λs=>match s.G[i]? with
 | some (some w)=>some (w,s.O)
 | _=>none
theorem zSm (hN:X.N[i]?=some x)(hv:Vis X.env.scope x)(hd:(x==("__debug__":Str))=false)(hcd:(x==("__classdict__":Str))=false):GM X (.Name x pos) (varM i):=by
 refine(zDg hN hv hd hcd).imp λB H Q zz83=>?_
 obtain⟨U,G,O,r,ms,q,c⟩:=zz83;unfold varM at q;split at q
 .rename_i w e;cases q;obtain⟨v,q1,q2⟩:=ms.get i w e;exact⟨v,q1,c v H [] (Kp.refl H) (by rw[append_nil];exact ms.cells) (by rw[append_nil];exact q2)⟩
 .cases q
abbrev MA:=List W×Mem
def gAM (K:W.Frag)(g:Mst->Option MA):TA:=λB H Q=>∃ U G O r,MS K H U O B G/\g ⟨G,O⟩=some r/\∀ vs H' M,Kp H H'->zAL K H' (U++M) r.2->DenWL K H' (U++M) r.1 vs->Q vs H'
def GAM (X:Cx)(es:List Expr)(g:Mst->Option MA):Prop:=PA X es (gAM X.K g)
noncomputable def nilM:Mst->Option MA:=λs=>some ([],s.O)
theorem zQR:GAM X [] nilM:=zBC.imp λB H Q zz84=>by
 obtain⟨U,G,O,r,ms,q,c⟩:=zz84;cases q;exact c [] H [] (Kp.refl H) (by rw[append_nil];exact ms.cells) .nil
def zNa (f:Mst->Option MR)(g:Mst->Option MA):Mst->Option MA:=λs=>(f s).bind λw=>(g ⟨s.G,w.2⟩).bind λws=>some (w.1::ws.1,ws.2)
theorem zM9 (ha:GM X e f)(hr:GAM X es g)(hs:starEach (e::es) X.env=(false,eval e X.env)::starEach es X.env):GAM X (e::es) (zNa f g):=by
 refine(zAY ha hr hs).imp λB H Q zz85=>?_
 obtain⟨U,G,O,r,ms,q,c⟩:=zz85;obtain⟨w,e1,q⟩:=bind_some q;obtain⟨ws,e2,q⟩:=bind_some q;cases q;refine⟨U,G,O,w,ms,e1,λv H1 M1 k1 c1 d1=>⟨U++M1,G,w.2,ws,ms.next k1 c1,e2,λvs H2 M2 k2 c2 d2=>?_⟩⟩;refine c (v::vs) H2 (M1++M2) (k1.trans k2) (by rw[<- q0];exact c2) (.cons ?_ ?_)
 .rw [<- q0];exact d1.mono k2 M2
 .rw [<- q0];exact d2
noncomputable def lstM (g:Mst->Option MA):Mst->Option MR:=λs=>(g s).bind λr=>if r.1.length<=10000 then some (.loc r.2.length,r.2++[r.1]) else none
theorem zKU {K:W.Frag}(c:zAL K H U O):DenW K H' (U++[a]) (.loc O.length) (.ref a):=by
 rw[DenW];exact⟨a,by rw[getElem?_append_right (by rw[c.len];omega),c.len,sub_self];rfl,rfl⟩
theorem zSp (h:GAM X es g):GM X (.List es pos) (lstM g):=by
 refine(zOA h).imp λB H Q zz86=>?_
 obtain⟨U,G,O,r,ms,q,c⟩:=zz86;obtain⟨ws,e1,q⟩:=bind_some q;by_cases hl:ws.1.length<=10000
 .rw [if_pos hl] at q;cases q;refine⟨U,G,O,ws,ms,e1,λvs H1 M k1 c1 d1=>⟨by rw[<- d1.length];exact zCs hl,λp n=>?_⟩⟩;have s2:Same H1 (upd H1 p (.lst vs)):=zAp n _;refine c _ _ (M++[p]) (k1.trans (zBX s2)) ?_ ?_
  .rw [<- q0];exact c1.new s2 n zAh (d1.mono (zBX s2) [p])
  .rw [<- q0];exact zKU c1
 .rw [if_neg hl] at q;cases q
abbrev MF:=List W->Mem->Option MR
def spM (K:W.Frag)(F:MF):Sp:=λvs H Q _=>∃ U O ws r,zAL K H U O/\DenWL K H U ws vs/\F ws O=some r/\∀ v H' M,Kp H H'->zAL K H' (U++M) r.2->DenW K H' (U++M) r.1 v->Q v H'
noncomputable def zI1 (F:MF)(g:Mst->Option MA):Mst->Option MR:=λs=>(g s).bind λws=>F ws.1 ws.2
theorem zLh {F:MF}{g:Mst->Option MA}{B:St}{H:Hp}{Q:VK}(q:gM X.K (zI1 F g) B H Q):zMF (spM X.K F) [] E0 (gAM X.K g) B H Q:=by
 obtain⟨U,G,O,r,ms,q,c⟩:=q;obtain⟨ws,e1,q⟩:=bind_some q;refine⟨U,G,O,ws,ms,e1,λvs H1 M k1 c1 d1=>?_⟩;show spM X.K F (vs++[]) H1 Q E0;rw[append_nil];exact⟨U++M,ws.2,ws.1,r,c1,d1,q,λv H2 M2 k2 c2 d2=>c v H2 (M++M2) (k1.trans k2) (by rw[<- q0];exact c2) (by rw[<- q0];exact d2)⟩
theorem zQF {k:Nat}{f:Addr}{fd:FuncData}{ps:List Str}{F:MF}{x:Str}{p pos:Pos}{e:Expr}{es:List Expr}{g:Mst->Option MA}(FO:FnOk X.prog X.w X.K X.mg X.base CX0 k f fd ps (spM X.K F))(hr:Room k X.A)(hg:Gl X x)(hm:X.mg x=some (.ref f))
  (hk:W.keepIn X.K (.ref f)=true) (hb:zBU X.K fd ps []) (ha:GAM X (e::es) g) (hdb:(x==("__debug__":Str))=false) (he:starEach (e::es) X.env=(false,eval e X.env)::starEach es X.env) (hpl:∀ pos,(backTo pos (starEach es X.env)).any (·.1)=false) :
  GM X (.Call (.Name x p) (e::es) [] pos) (zI1 F g) :=
 (zJr FO hr hg hm hk hb .nil zJs ha hdb he (hpl pos)).imp λ_ _ _ q=>zLh q
noncomputable def opM (o:D->D->Option R)(x y:W)(O:Mem):Option MR:=(drW O x).bind λa=>(drW O y).bind λb=>(o a b).bind λr=>zHU r O
noncomputable def twoM (f g:Mst->Option MR)(o:W->W->Mem->Option MR):Mst->Option MR:=λs=>(f s).bind λx=>(g ⟨s.G,x.2⟩).bind λy=>o x.1 y.1 y.2
def OpW (K:W.Frag)(r:R2)(o:W->W->Mem->Option MR):Prop :=
 ∀ (H:Hp) (U:List Addr) (O:Mem) (x y:W) (z:MR) (vx vy:V) (Q:VK),zAL K H U O->o x y O=some z->DenW K H U x vx->DenW K H U y vy->(∀ v H' M,Kp H H'->zAL K H' (U++M) z.2->DenW K H' (U++M) z.1 v->Q v H')->r vx vy H Q
theorem zPO {r:R2}{o:W->W->Mem->Option MR}{f g:Mst->Option MR}(h:OpW X.K r o){B:St}{H:Hp}{Q:VK}(q:gM X.K (twoM f g o) B H Q):tOp r (gM X.K f) (gM X.K g) B H Q:=by
 obtain⟨U,G,O,z,ms,q,c⟩:=q;obtain⟨x,e1,q⟩:=bind_some q;obtain⟨y,e2,q⟩:=bind_some q;refine⟨U,G,O,x,ms,e1,λvx H1 M1 k1 c1 d1=>⟨U++M1,G,x.2,y,ms.next k1 c1,e2,λvy H2 M2 k2 c2 d2=>?_⟩⟩;refine h H2 (U++M1++M2) y.2 x.1 y.1 z vx vy Q c2 q (d1.mono k2 M2) d2 λv H3 M3 k3 c3 d3=>?_
 refine c v H3 (M1++M2++M3) (k1.trans (k2.trans k3)) ?_ ?_
 .rw [show U++(M1++M2++M3)=U++M1++M2++M3 by simp];exact c3
 .rw [show U++(M1++M2++M3)=U++M1++M2++M3 by simp];exact d3
noncomputable def ixW (x y:W)(O:Mem):Option MR:=match x,y with
 | .loc n,.dat (.int i)=>(O[n]?).bind λws=>(atI ws i).map λw=>(w,O)
 | .tup ws,.dat (.int i)=>(atI ws i).map λw=>(w,O)
 | .dat (.tup ds),.dat (.int i)=>(atI ds i).map λd=>(.dat d,O)
 | .dat (.lst ds),.dat (.int i)=>(atI ds i).map λd=>(.dat d,O)
 | _,_=>none
theorem DenWL.atI {K:W.Frag}(h:DenWL K H U ws vs)(e:atI ws i=some w):∃ v,L2.atI vs i=some v/\DenW K H U w v:=by
 unfold L2.atI at e ⊢;obtain⟨j,e1,e2⟩:=bind_some e;obtain⟨v,q1,q2⟩:=h.get e2;refine⟨v,?_,q2⟩;rw[<- h.length,e1];exact q1
theorem zRp:OpW X.K (λx y H Q=>rIxL X.K x y H Q\/rIxT X.K x y H Q) ixW:=λH U O x y z vx vy Q c e dx dy n=>by
 have fin:∀ {w:W} {v:V},DenW X.K H U w v->z=(w,O)->Q v H:=λ{w v} d ez=>by
  subst ez;exact n v H [] (Kp.refl H) (by rw[append_nil];exact c) (by rw[append_nil];exact d)
 unfold ixW at e;split at e
 .rename_i m i;obtain⟨ws,e1,e⟩:=bind_some e;obtain⟨w,e2,e⟩:=yq.mp e;rw[DenW] at dx;rw[DenW] at dy;rw[Den] at dy;obtain⟨a,vs,q1,q2,q3⟩:=c.at_ m ws e1;obtain⟨b,h1,rfl⟩:=dx;rw[h1] at q1;cases q1;obtain⟨v,g1,g2⟩:=q3.atI e2;exact .inl ⟨_,vs,i,v,rfl,dy,SqL.of q2,g1,fin g2 e.symm⟩
 .rename_i ws i;obtain⟨w,e2,e⟩:=yq.mp e;rw[DenW] at dx;rw[DenW] at dy;rw[Den] at dy;obtain⟨a,vs,rfl,h2,h3⟩:=dx;obtain⟨v,g1,g2⟩:=h3.atI e2;exact .inr ⟨a,vs,i,v,rfl,dy,Same.tupS zBT h2,g1,fin g2 e.symm⟩
 .rename_i ds i;obtain⟨d,e2,e⟩:=yq.mp e;rw[DenW] at dx;rw[DenW] at dy;rw[Den] at dx;rw[Den] at dy;obtain⟨a,vs,rfl,h2,h3⟩:=dx;obtain⟨v,g1,g2⟩:=h3.atI e2;exact .inr ⟨a,vs,i,v,rfl,dy,Same.tupS zBT h2,g1,fin (w:=.dat d) (by rw[DenW];exact g2) e.symm⟩
 .rename_i ds i;obtain⟨d,e2,e⟩:=yq.mp e;rw[DenW] at dx;rw[DenW] at dy;rw[Den] at dx;rw[Den] at dy;obtain⟨a,vs,rfl,h2,h3⟩:=dx;obtain⟨v,g1,g2⟩:=h3.atI e2;exact .inl ⟨a,vs,i,v,rfl,dy,zBT.seq h2,g1,fin (w:=.dat d) (by rw[DenW];exact g2) e.symm⟩
 .cases e
theorem zUQ (ha:GM X a f)(hb:GM X b g)(hs:zFs b):GM X (.Subscript a b pos) (twoM f g ixW) :=
 (zRj (zKZ.or zOM) ha hb hs).imp λ_ _ _ q=>zPO zRp q
end
section
variable {X:Cx}
abbrev MB:=Bool×Mem
def gBM (K:W.Frag)(g:Mst->Option MB):TT:=λB H Q=>∃ U G O r,MS K H U O B G/\g ⟨G,O⟩=some r/\∀ H' M,Kp H H'->zAL K H' (U++M) r.2->Q r.1 H'
def GTM (X:Cx)(e:Expr)(g:Mst->Option MB):Prop:=PT X e (gBM X.K g)
def GWM (X:Cx)(e:Expr)(g:Mst->Option MB):Prop:=PW X e (gBM X.K g)
noncomputable def asBM (f:Mst->Option MR):Mst->Option MB:=λs=>match f s with
 | some (.dat (.bl b),O)=>some (b,O)
 | _=>none
theorem zLn (h:asBM f s=some r):f s=some (.dat (.bl r.1),r.2):=by
 unfold asBM at h;split at h
 .rename_i e;cases h;exact e
 .cases h
theorem zQU {f:Mst->Option MR}{B:St}{H:Hp}{Q:Bool->Hp->Prop}(q:gBM X.K (asBM f) B H Q):gM X.K f B H λx H'=>∃ k,x=.bl k/\Q k H':=by
 obtain⟨U,G,O,r,ms,e,c⟩:=q;refine⟨U,G,O,_,ms,zLn e,λv H' M k1 c1 d1=>⟨r.1,?_,c H' M k1 c1⟩⟩;rw[DenW,Den] at d1;exact d1
def zMn (k:Dst->Option Bool):Mst->Option MB:=λs=>(k (drS s.O s.G)).map λb=>(b,s.O)
theorem zMy (h:GT X e k):GTM X e (zMn k):=h.imp λB H Q zz87=>by
 obtain⟨U,G,O,r,ms,q,c⟩:=zz87;obtain⟨b,e1,e2⟩:=yq.mp q;cases e2;exact⟨[],drS O G,b,zLQ ms,e1,λH' s1=>c H' [] (zBX s1) (by rw[append_nil];exact ms.cells.same s1)⟩
theorem zP3 (h:GM X e f)(he:∀ whole,isTrue e X.env whole=(do let v<-whole;standAt e.pos;holding [v] (truthy v))):GTM X e (asBM f) :=
 (zN5 h he).imp λ_ _ _ q=>zQU q
noncomputable def andB (f g:Mst->Option MB):Mst->Option MB:=λs=>(f s).bind λr=>if r.1=true then g ⟨s.G,r.2⟩ else some (false,r.2)
noncomputable def orB (f g:Mst->Option MB):Mst->Option MB:=λs=>(f s).bind λr=>if r.1=true then some (true,r.2) else g ⟨s.G,r.2⟩
noncomputable def notB (f:Mst->Option MB):Mst->Option MB:=λs=>(f s).map λr=>(!r.1,r.2)
theorem zP4 (h:GTM X a f):GTM X (.UnaryOp .Not a pos) (notB f) :=
 (zN6 h).imp λB H Q zz88=>by
  obtain⟨U,G,O,r,ms,q,c⟩:=zz88;obtain⟨z,e1,e2⟩:=yq.mp q;cases e2;exact⟨U,G,O,z,ms,e1,λH' M k1 c1=>c H' M k1 c1⟩
theorem zMx (h:GTM X a f):GWM X (.BoolOp .And [a] pos) f:=zJk h
theorem zP1 (h:GTM X a f):GWM X (.BoolOp .Or [a] pos) f:=zN2 h
theorem zP2 (ha:GTM X a f)(hb:GWM X (.BoolOp .And (b::rest) pos) g):GWM X (.BoolOp .And (a::b::rest) pos) (andB f g):=by
 refine PW.imp (zN4 ha hb) λB H Q zz89=>?_
 obtain⟨U,G,O,r,ms,q,c⟩:=zz89;obtain⟨⟨b1,O4⟩,e1,q⟩:=bind_some q;cases b1 with
 | true =>
  rw[if_pos rfl] at q;refine⟨U,G,O,_,ms,e1,λH1 M k1 c1=>iteT ?_⟩;exact⟨U++M,G,O4,r,ms.next k1 c1,q,λH2 M2 k2 c2=>c H2 (M++M2) (k1.trans k2) (by rw[<- q0];exact c2)⟩
 | false =>
  rw[if_neg qY] at q;cases q;exact⟨U,G,O,_,ms,e1,λH1 M k1 c1=>iteF (c H1 M k1 c1)⟩
theorem zSa (ha:GTM X a f)(hb:GWM X (.BoolOp .Or (b::rest) pos) g):GWM X (.BoolOp .Or (a::b::rest) pos) (orB f g):=by
 refine PW.imp (zRZ ha hb) λB H Q zz90=>?_
 obtain⟨U,G,O,r,ms,q,c⟩:=zz90;obtain⟨⟨b1,O4⟩,e1,q⟩:=bind_some q;cases b1 with
 | true =>
  rw[if_pos rfl] at q;cases q;exact⟨U,G,O,_,ms,e1,λH1 M k1 c1=>iteT (c H1 M k1 c1)⟩
 | false =>
  rw[if_neg qY] at q;refine⟨U,G,O,_,ms,e1,λH1 M k1 c1=>iteF ?_⟩;exact⟨U++M,G,O4,r,ms.next k1 c1,q,λH2 M2 k2 c2=>c H2 (M++M2) (k1.trans k2) (by rw[<- q0];exact c2)⟩
inductive OutM where
 | nx (s:Mst) | rt (r:MR) | bk (s:Mst) | ct (s:Mst)
def zUg (K:W.Frag)(H0:Hp)(α0:List Addr)(o:OutM)(E:Ends):Prop:=match o with
 | .nx s=>∀ M B' H',MS K H' (α0++M) s.O B' s.G->Kp H0 H'->E.nx B' H'
 | .bk s=>∀ M B' H',MS K H' (α0++M) s.O B' s.G->Kp H0 H'->E.bk B' H'
 | .ct s=>∀ M B' H',MS K H' (α0++M) s.O B' s.G->Kp H0 H'->E.ct B' H'
 | .rt r=>∀ M v H',zAL K H' (α0++M) r.2->DenW K H' (α0++M) r.1 v->Kp H0 H'->E.rt v H'
def gSM (K:W.Frag)(H0:Hp)(α0:List Addr)(g:Mst->Option OutM):TS:=λE B H=>∃ M s o,MS K H (α0++M) s.O B s.G/\Kp H0 H/\g s=some o/\zUg K H0 α0 o E
def GSM (X:Cx)(st:Stmt)(g:Mst->Option OutM):Prop:=∀ H0 α0,PS X st (gSM X.K H0 α0 g)
def GSsM (X:Cx)(st:List Stmt)(g:Mst->Option OutM):Prop:=∀ H0 α0,PSs X st (gSM X.K H0 α0 g)
def seqM (f g:Mst->Option OutM):Mst->Option OutM:=λs=>(f s).bind λo=>match o with
 | .nx s'=>g s'
 | o=>some o
theorem zMz:GSsM X [] (λs=>some (.nx s)):=λH0 α0=>zGx.imp λE B H zz91=>by
 obtain⟨M,s,o,ms,k,e,p⟩:=zz91;cases e;exact p M B H ms k
theorem zKj {st:Stmt}(h1:GSM X st f)(h2:GSsM X rest g):GSsM X (st::rest) (seqM f g):=λH0 α0=>(zFQ (h1 H0 α0) (h2 H0 α0)).imp λE B H zz92=>by
 obtain⟨M,s,o,ms,k,e,p⟩:=zz92;obtain⟨o1,e1,e⟩:=bind_some e;refine⟨M,s,o1,ms,k,e1,?_⟩;cases o1 with
 | nx s'=>exact λM' B' H' ms' k'=>⟨M',s',o,ms',k',e,p⟩
 | rt r=>cases e;exact p
 | bk s'=>cases e;exact p
 | ct s'=>cases e;exact p
noncomputable def setM (i:Nat)(f:Mst->Option MR):Mst->Option OutM:=λs=>(f s).bind λr=>some (.nx ⟨s.G.set i (some r.1),r.2⟩)
theorem zKk (hN:X.N.Nodup)(hi:X.N[i]?=some x)(hx:Loc X.env.scope x)(h:GM X e f)(hs:swapsWith e (some (.Name x pos')) pos.line X.env=pure false)(hf:X.fn x=true\/X.env.scope.names.lookup x=some .local) :
  GSM X (.Assign [.Name x pos'] e pos) (setM i f):=λH0 α0=>(zN7 hN hi hx h hs hf).imp λE B H zz93=>by
 obtain⟨M,s,o,ms,k,e,p⟩:=zz93;obtain⟨r,er,e⟩:=bind_some e;cases e;refine⟨α0++M,s.G,s.O,r,ms,er,λv H1 M1 k1 c1 d1=>?_⟩;have ms1:=(ms.next k1 c1).set (i:=i) d1;rw[q0] at ms1;exact p (M++M1) _ H1 ms1 (k.trans k1)
noncomputable def retM (f:Mst->Option MR):Mst->Option OutM:=λs=>(f s).bind λr=>some (.rt r)
theorem zP7 (h:GM X e f):GSM X (.Return (some e) pos) (retM f):=λH0 α0=>(zJl h).imp λE B H zz94=>by
 obtain⟨M,s,o,ms,k,e,p⟩:=zz94;obtain⟨r,er,e⟩:=bind_some e;cases e;refine⟨α0++M,s.G,s.O,r,ms,er,λv H1 M1 k1 c1 d1=>?_⟩;rw[q0] at c1 d1;exact p (M++M1) v H1 c1 d1 (k.trans k1)
theorem zKl {st:Stmt}:GSM X st (λ_=>none):=λH0 α0=>(zFR (X:=X) (st:=st)).imp λE B H zy135=>by obtain⟨M,s,o,ms,k,e,p⟩:=zy135;cases e
noncomputable def ifM (c:Mst->Option MB)(f g:Mst->Option OutM):Mst->Option OutM:=λs=>(c s).bind λb=>if b.1=true then f ⟨s.G,b.2⟩ else g ⟨s.G,b.2⟩
theorem zSg (hc:GTM X c k)(ha:GSsM X a f)(hb:GSsM X b g):GSM X (.If c a b pos) (ifM k f g):=λH0 α0=>(zRa hc (ha H0 α0) (hb H0 α0)).imp λE B H zz95=>by
 obtain⟨M,s,o,ms,kp,e,p⟩:=zz95;obtain⟨⟨b1,O4⟩,e1,e⟩:=bind_some e;refine⟨α0++M,s.G,s.O,_,ms,e1,λH1 M1 k1 c1=>?_⟩;have ms1:=ms.next k1 c1;rw[q0] at ms1;cases b1 with
 | true =>
  rw[if_pos rfl] at e;exact iteT ⟨M++M1,_,o,ms1,kp.trans k1,e,p⟩
 | false =>
  rw[if_neg qY] at e;exact iteF ⟨M++M1,_,o,ms1,kp.trans k1,e,p⟩
noncomputable def appM (t f:Mst->Option MR):Mst->Option OutM:=λs=>(t s).bind λx=>match x.1 with
 | .loc n=>(f ⟨s.G,x.2⟩).bind λr=>(r.2[n]?).bind λws=>if ws.length<=10000 then some (.nx ⟨s.G,r.2.set n (ws++[r.1])⟩) else none
 | _=>none
theorem zQA (hb:GM X b t)(h:GM X e f)
  (he:starEach [e] X.env=[(false,eval e X.env)]) (hbase:attributeBase b "append" X.env (eval b X.env)=eval b X.env) (hline:(apos.endLine==cpos.line)=true) :
  GSM X (.Expr (.Call (.Attribute b "append" apos) [e] [] cpos) pos) (appM t f):=λH0 α0=>(zFS (zPH PySem.F.plainAttrs_list PySem.F.slot_list_append PySem.F.type_list_append zGG hb (zAY h zBC he) hbase (by rw[he];rfl) hline he rfl) rfl).imp λE B H zz96=>by
 obtain⟨M,s,o,ms,k,e,p⟩:=zz96;obtain⟨x,ex,e⟩:=bind_some e;split at e
 .rename_i n en;obtain⟨r,er,e⟩:=bind_some e;obtain⟨ws,ew,e⟩:=bind_some e;by_cases hl:ws.length<=10000
  .rw [if_pos hl] at e;cases e;refine⟨α0++M,s.G,s.O,x,ms,ex,λv H1 M1 k1 c1 d1=>?_⟩;rw[en,DenW] at d1;obtain⟨a,ha,rfl⟩:=d1;have ms1:=ms.next k1 c1;have hn1:n < x.2.length:=by rw[<- c1.len];exact(zzg ha).1
   obtain⟨a',vs0,q1,q2,_⟩:=c1.at_ n _ (getElem?_eq_getElem hn1);rw[ha] at q1;cases q1;refine⟨.inl ⟨rfl,_,SqL.of q2⟩,α0++M++M1,s.G,x.2,r,ms1,er,λy H2 M2 k2 c2 d2=>?_⟩;have ms2:=ms1.next k2 c2;obtain⟨b',vs,g1,g2,g3⟩:=c2.at_ n ws ew;have ha2:(α0++M++M1++M2)[n]?=some a:=by rw[getElem?_append_left (zzg ha).1];exact ha
   rw[ha2] at g1;cases g1;refine⟨a,vs,y,rfl,rfl,g2,by rw[<- g3.length];exact Nat.lt_of_le_of_lt hl (by decide),?_⟩;have hn2:n < r.2.length:=(zzg ew).1;have kp:Kp H2 (upd H2 a (.lst (vs++[y]))):=by show Same _ _;rw[zKv g2];exact Same.refl _
   have c3:=c2.change hn2 ha2 g2 (g3.append (.cons d2 .nil));have ms3:MS X.K (upd H2 a (.lst (vs++[y]))) (α0++(M++M1++M2)) (r.2.set n (ws++[r.1])) B s.G:=by
    have m:=ms2.next (M:=[]) kp (by rw[append_nil];exact c3);rw[append_nil] at m;rw[show α0++(M++M1++M2)=α0++M++M1++M2 by simp];exact m
   exact p (M++M1++M2) B _ ms3 (k.trans (k1.trans (k2.trans kp)))
  .rw [if_neg hl] at e;cases e
 .cases e
end
section
variable {X:Cx}{K:W.Frag}{H:Hp}{U:List Addr}{O:Mem}{B:St}{G:List (Option W)}
theorem zAL.loc (c:zAL K H U O){n:Nat}(ha:U[n]?=some a):∃ ws vs,O[n]?=some ws/\H a=some (.lst vs)/\DenWL K H U ws vs:=by
 have hn:n < O.length:=by rw[<- c.len];exact(zzg ha).1
 obtain⟨a',vs,q1,q2,q3⟩:=c.at_ n _ (getElem?_eq_getElem hn);rw[ha] at q1;cases q1;exact⟨_,vs,getElem?_eq_getElem hn,q2,q3⟩
theorem zAL.loc' (c:zAL K H U O){n:Nat}(ha:U[n]?=some a)(hw:O[n]?=some ws):∃ vs,H a=some (.lst vs)/\DenWL K H U ws vs:=by
 obtain⟨ws',vs,q1,q2,q3⟩:=c.loc ha;rw[hw] at q1;cases q1;exact⟨vs,q2,q3⟩
theorem zO9 {n:Nat}(h:U[n]?=some a):(U++M)[n]?=some a:=by rw[getElem?_append_left (zzg h).1];exact h
theorem DenWL.dropLast:∀ {ws:List W} {vs:List V},DenWL K H U ws vs->DenWL K H U ws.dropLast vs.dropLast
 | [],_,h=>by rw[DenWL] at h;subst h;exact .nil
 | [w],_,h=>by
  rw[DenWL] at h;obtain⟨v,us,rfl,h2,h3⟩:=h;rw[DenWL] at h3;subst h3;exact .nil
 | w::w2::ws,_,h=>by
  rw[DenWL] at h;obtain⟨v,us,rfl,h2,h3⟩:=h;have h3':=h3;rw[DenWL] at h3;obtain⟨v2,us2,rfl,_,_⟩:=h3;exact .cons h2 (DenWL.dropLast h3')
inductive Src where
 | items (ws:List W) | live (n:Nat)
noncomputable def itm (O:Mem):Src->Option (List W)
 | .items ws=>some ws
 | .live n=>O[n]?
def JOk (K:W.Frag)(J:It)(src:Src)(H1:Hp)(U1:List Addr):Prop :=
 ∀ (i:Nat) (H2:Hp) (L:List Addr) (μ2:Mem) (ws:List W),Kp H1 H2->zAL K H2 (U1++L) μ2->itm μ2 src=some ws->(ws[i]?=none->J.stop i H2)/\∀ w,ws[i]?=some w->J.go i H2/\∀ v H3,J.yld i H2 v H3->H3=H2/\DenW K H2 (U1++L) w v
def GIM (X:Cx)(tg iter:Expr)(g:Mst->Option (Src×Mem)):Prop:=∃ wi,PI X tg iter wi/\∀ (B:St) (H:Hp) (U:List Addr) (G:List (Option W)) (O:Mem) (r:Src×Mem) (Rr:It->Hp->Prop),MS X.K H U O B G->g ⟨G,O⟩=some r ->
 (∀ J H1 M,Kp H H1->zAL X.K H1 (U++M) r.2->JOk X.K J r.1 H1 (U++M)->Rr J H1)->wi B H Rr
def GGM (X:Cx)(tg:Expr)(t:W->Mst->Option Mst):Prop:=∃ g,PG X tg g/\∀ (w:W) (v:V) (B:St) (H:Hp) (U:List Addr) (s s':Mst) (Q:St->Hp->Prop),MS X.K H U s.O B s.G->DenW X.K H U w v->t w s=some s'->(∀ B',MS X.K H U s'.O B' s'.G->Q B' H)->g v B H Q
noncomputable def tgM (i:Nat):W->Mst->Option Mst:=λw s=>some ⟨s.G.set i (some w),s.O⟩
theorem zFh (hN:X.N.Nodup)(hi:X.N[i]?=some x)(hx:Loc X.env.scope x)(hf:X.fn x=true\/X.env.scope.names.lookup x=some .local):GGM X (.Name x pos) (tgM i) :=
 ⟨_,zFU hN hi hx hf,λw v B H U s s' Q ms hw e q=>by
  cases e;exact q _ (ms.set hw)⟩
noncomputable def forN (t:W->Mst->Option Mst)(b:Mst->Option OutM)(src:Src):Nat->Nat->Mst->Option OutM
 | 0,_,_=>none
 | f+1,i,s=>(itm s.O src).bind λws=>match ws[i]? with
  | none=>some (.nx s)
  | some w=>(t w s).bind λs1=>(b s1).bind λo=>match o with
   | .nx s'=>forN t b src f (i+1) s'
   | .ct s'=>forN t b src f (i+1) s'
   | .bk s'=>some (.nx s')
   | .rt r=>some (.rt r)
theorem zES :∀ {f i:Nat} {s:Mst} {o:OutM},forN t b src f i s=some o->forN t b src (f+1) i s=some o
 | 0,_,_,_,h=>by cases h
 | f+1,i,s,o,h=>by
  rw[forN] at h ⊢;obtain⟨ws,e1,h⟩:=bind_some h;rw[e1,qx];cases q:ws[i]? with
  | none=>rw[q] at h;exact h
  | some w =>
   rw[q] at h;dsimp only at h ⊢;obtain⟨s1,e2,h⟩:=bind_some h;obtain⟨o1,e3,h⟩:=bind_some h;rw[e2,qx,e3,qx];cases o1 with
   | nx s'=>exact zES (f:=f) h
   | ct s'=>exact zES (f:=f) h
   | bk s'=>exact h
   | rt r=>exact h
theorem zGS (h:forN t b src f i s=some o)(l:f<=g):forN t b src g i s=some o:=by
 induction g with
 | zero =>
      have:f=0:=by omega
      subst this;exact h
 | succ g ih =>
  by_cases q:f<=g
  .exact zES (ih q)
  .have:f=g+1:=by omega
   subst this;exact h
open Classical in
def zFi (t:W->Mst->Option Mst)(b:Mst->Option OutM)(src:Src)(i:Nat)(s:Mst):Option OutM :=
 if h:∃ n o,forN t b src n i s=some o then some (Classical.choose (choose_spec h)) else none
theorem zNC (h:forN t b src n i s=some o):zFi t b src i s=some o:=by
 have ex:∃ n o,forN t b src n i s=some o:=⟨n,o,h⟩;unfold zFi;rw[dif_pos ex];have q:=choose_spec (choose_spec ex);have q1:=zGS q (Nat.le_max_left _ n);have q2:=zGS h (Nat.le_max_right (Classical.choose ex) n);rw[q1] at q2;exact q2
theorem zKw (h:zFi t b src i s=some o):∃ n,forN t b src n i s=some o:=by
 unfold zFi at h;by_cases ex:∃ n o,forN t b src n i s=some o
 .rw [dif_pos ex] at h;have q:=choose_spec (choose_spec ex);cases h;exact⟨_,q⟩
 .rw [dif_neg ex] at h;cases h
theorem zP8 (hp:PassesOwn (model X.prog X.w) X.A X.env X.xe)(hc:X.calm=true)(hi:GIM X tg iter f)(hg:GGM X tg t)(hb:GSsM X body b)
  (hs:∀ x,foldedSetIterable iter X.env x=pure x):GSM X (.For tg iter body [] pos) (λs=>(f s).bind λr=>zFi t b r.1 0 ⟨s.G,r.2⟩):=by
 intro H0 α0;obtain⟨wi,hwi,hI⟩:=hi;obtain⟨g,hg,hG⟩:=hg;intro pins s B H E I ⟨M,st,o,ms,kp,e,p⟩;obtain⟨r,er,e⟩:=bind_some e;obtain⟨N,eN⟩:=zKw e;refine(zN8 (tb:=λE B H2=>∃ H1 U1,gSM X.K H1 U1 b E B H2) hp hc hwi hg ?_ hs) pins s B H E I ?_
 .intro pins s B H E I ⟨H1,U1,q⟩;exact hb H1 U1 pins s B H E I q
 refine hI B H (α0++M) st.G st.O r _ ms er λJ H1 M1 k1 c1 hJ=>?_
 refine⟨λi m B' H2=>∃ L s',MS X.K H2 (α0++M++M1++L) s'.O B' s'.G/\Kp H1 H2/\forN t b r.1 m i s'=some o,⟨N,[],⟨st.G,r.2⟩,by rw[append_nil];exact ms.next k1 c1,Kp.refl _,eN⟩,?_⟩;rintro i m B' H2 ⟨L,s',ms',k',e'⟩;cases m with
 | zero=>cases e'
 | succ m =>
  rw[forN] at e';obtain⟨ws,ew,e'⟩:=bind_some e';obtain⟨j1,j2⟩:=hJ i H2 L s'.O ws k' ms'.cells ew;have assoc:∀ L:List Addr,α0++M++M1++L=α0++(M++M1++L):=λL=>by simp
  cases q:ws[i]? with
  | none =>
   rw[q] at e';cases e';rw[assoc] at ms';exact .inl ⟨j1 q,p _ B' H2 ms' (kp.trans (k1.trans k'))⟩
  | some w =>
   rw[q] at e';dsimp only at e';obtain⟨s1,e1,e'⟩:=bind_some e';obtain⟨o1,e2,e'⟩:=bind_some e';obtain⟨go,yl⟩:=j2 w q;refine .inr ⟨go,λB3 H3=>∃ L s',MS X.K H3 (α0++M++M1++L) s'.O B3 s'.G/\Kp H1 H3/\forN t b r.1 m (i+1) s'=some o,λB3 H3 z=>⟨m,Nat.lt_succ_self m,z⟩,λv H3 y=>?_⟩;obtain⟨rfl,hv⟩:=yl v H3 y;refine hG w v B' H3 _ s' s1 _ ms' hv e1 λB4 ms4=>⟨H1,α0++M++M1,L,s1,o1,ms4,k',e2,?_⟩
   cases o1 with
   | nx s2=>exact λO3 B2 H4 m2 q2=>⟨O3,s2,m2,q2,e'⟩
   | ct s2=>exact λO3 B2 H4 m2 q2=>⟨O3,s2,m2,q2,e'⟩
   | bk s2 =>
    cases e';intro O3 B2 H4 m2 q2;rw[assoc] at m2;exact p _ B2 H4 m2 (kp.trans (k1.trans q2))
   | rt z =>
    cases e';intro O3 v2 H4 c2 d2 q2;rw[assoc] at c2 d2;exact p _ v2 H4 c2 d2 (kp.trans (k1.trans q2))
end
section
variable {X:Cx}
noncomputable def srcM (f:Mst->Option MR):Mst->Option (Src×Mem):=λs=>(f s).bind λr=>match r.1 with
 | .loc n=>some (.live n,r.2)
 | .tup ws=>some (.items ws,r.2)
 | .dat (.tup ds)=>some (.items (ds.map .dat),r.2)
 | .dat (.lst ds)=>some (.items (ds.map .dat),r.2)
 | _=>none
theorem zQG (h:GM X iter f):GIM X tg iter (srcM f):=by
 refine⟨_,zN9 h,λB H U G O z Rr ms e q=>?_⟩;obtain⟨r,er,e⟩:=bind_some e;refine⟨U,G,O,r,ms,er,λv H1 M k1 c1 d1=>?_⟩;have tupJ:∀ {a:Addr} {ws:List W} {vs:List V},SqT X.K (fzH H1) a vs->DenWL X.K H1 (U++M) ws vs->JOk X.K (Itt X.K a) (.items ws) H1 (U++M):=λ{a ws vs} sq dl i H2 L μ2 ws' k2 c2 e2=>by
  cases e2;have sq2:SqT X.K H2 a vs:=Same.tupS zBT (Same.tupS k2 sq);refine⟨λn=>⟨vs,sq2,?_⟩,λw ew=>?_⟩
  .rw [<- dl.length];exact List.getElem?_eq_none_iff.mp n
  .obtain ⟨u,g1,g2⟩:=dl.get ew;refine⟨⟨vs,u,sq2,g1⟩,λv H3 y=>⟨y.1,?_⟩⟩;have:=y.2 vs sq2;rw[g1] at this;cases this;exact g2.mono k2 L
 have lstJ:∀ {a:Addr} {ws:List W} {vs:List V},SqL X.K (fzH H1) a vs->DenWL X.K H1 (U++M) ws vs->JOk X.K (Itl X.K a) (.items ws) H1 (U++M):=λ{a ws vs} sq dl i H2 L μ2 ws' k2 c2 e2=>by
  cases e2;have sq2:SqL X.K H2 a vs:=zBT.seq (k2.seq sq);refine⟨λn=>⟨vs,sq2,?_⟩,λw ew=>?_⟩
  .rw [<- dl.length];exact List.getElem?_eq_none_iff.mp n
  .obtain ⟨u,g1,g2⟩:=dl.get ew;refine⟨⟨vs,u,sq2,g1⟩,λv H3 y=>⟨y.1,?_⟩⟩;have:=y.2 vs sq2;rw[g1] at this;cases this;exact g2.mono k2 L
 split at e
 .rename_i n en;cases e;rw[en,DenW] at d1;obtain⟨a,ga,rfl⟩:=d1;obtain⟨ws0,vs0,_,q2,_⟩:=c1.loc ga;refine⟨a,rfl,.inl ⟨⟨vs0,SqL.of q2⟩,q _ H1 M k1 c1 λi H2 L μ2 ws k2 c2 e2=>?_⟩⟩;obtain⟨vs,g2,g3⟩:=c2.loc' (zO9 (M:=L) ga) e2;have sq2:SqL X.K H2 a vs:=SqL.of g2;refine⟨λn=>⟨vs,sq2,?_⟩,λw ew=>?_⟩
  .rw [<- g3.length];exact List.getElem?_eq_none_iff.mp n
  .obtain ⟨u,g4,g5⟩:=g3.get ew;refine⟨⟨vs,u,sq2,g4⟩,λv H3 y=>⟨y.1,?_⟩⟩;have:=y.2 vs sq2;rw[g4] at this;cases this;exact g5
 .rename_i ws en;cases e;rw[en,DenW] at d1;obtain⟨a,vs,rfl,h2,h3⟩:=d1;exact⟨a,rfl,.inr ⟨⟨vs,Same.tupS zBT h2⟩,q _ H1 M k1 c1 (tupJ h2 h3)⟩⟩
 .rename_i ds en;cases e;rw[en,DenW,Den] at d1;obtain⟨a,vs,rfl,h2,h3⟩:=d1;exact⟨a,rfl,.inr ⟨⟨vs,Same.tupS zBT h2⟩,q _ H1 M k1 c1 (tupJ h2 (DenWL.dats h3))⟩⟩
 .rename_i ds en;cases e;rw[en,DenW,Den] at d1;obtain⟨a,vs,rfl,h2,h3⟩:=d1;exact⟨a,rfl,.inl ⟨⟨vs,zBT.seq h2⟩,q _ H1 M k1 c1 (lstJ h2 (DenWL.dats h3))⟩⟩
 .cases e
def zMK (f:Mst->Option MR):Mst->Option (Src×Mem):=λs=>(f s).bind λr=>match r.1 with
 | .dat (.int j)=>if -(2^62)<=j/\j < 2^62 then some (.items ((rngL 0 j.toNat).map .dat),r.2) else none
 | _=>none
theorem rngJ {K:W.Frag}(lo:Int)(n:Nat):JOk K (Itr lo n) (.items ((rngL lo n).map .dat)) H1 U1:=λi H2 L μ2 ws k2 c2 e2=>by
 cases e2;have hl:((rngL lo n).map W.dat).length=n:=by unfold rngL;simp
 refine⟨λz=>?_,λw ew=>?_⟩
 .have:=List.getElem?_eq_none_iff.mp z;rw[hl] at this;exact this
 .have hi:i < n:=by rw[<- hl];exact(zzg ew).1
  refine⟨hi,λv H3 y=>⟨y.1,?_⟩⟩;have ev:v=.int (lo+i):=y.2;have:((rngL lo n).map W.dat)[i]?=some (.dat (.int (lo+(i:Int)))):=by unfold rngL;simp[hi]
  rw[this] at ew;cases ew;rw[DenW,Den];exact ev
theorem zIp (hg:Gl X "range")(hm:X.mg "range"=none)(h:GM X a f)(hs:starEach [a] X.env=[(false,eval a X.env)]):GIM X tg (.Call (.Name "range" p) [a] [] pos) (zMK f):=by
 refine⟨_,zGB hg hm (zAY h zBC hs) hs,λB H U G O z Rr ms e q=>?_⟩;obtain⟨r,er,e⟩:=bind_some e;split at e
 .rename_i j ej;by_cases hj:-(2^62)<=j/\j < 2^62
  .rw [if_pos hj] at e;cases e;refine⟨U,G,O,r,ms,er,λv H1 M k1 c1 d1=>⟨j,?_,hj.1,hj.2,q _ H1 M k1 c1 (rngJ 0 _)⟩⟩;rw[ej,DenW,Den] at d1;rw[d1]
  .rw [if_neg hj] at e;cases e
 .cases e
def zML (f g:Dst->Option R):Mst->Option (Src×Mem):=λs=>(zGu f g (drS s.O s.G)).map λds=>(.items (ds.map .dat),s.O)
theorem zIo (hg:Gl X "range")(hm:X.mg "range"=none)(ha:GE X a f)(hb:GE X b g)(hs:starEach [a,b] X.env=(false,eval a X.env)::starEach [b] X.env)(hs2:starEach [b] X.env=[(false,eval b X.env)]):GIM X tg (.Call (.Name "range" p) [a,b] [] pos) (zML f g):=by
 refine⟨_,zGA hg hm (zAY ha (zAY hb zBC hs2) hs) (by rw[hs,hs2]) hs2,λB H U G O z Rr ms e q=>?_⟩;obtain⟨xs,ex,e⟩:=yq.mp e;cases e;unfold zGu at ex;split at ex
 .rename_i i k j k2 ei ej;by_cases hj:(-(2^62)<=i/\i < 2^62)/\-(2^62)<=j/\j < 2^62
  .rw [if_pos hj] at ex;cases ex;have ds:=zLQ ms;exact⟨[],drS O G,_,ds,ei,λv H1 s1 r1=>⟨[],drS O G,_,ds.mono s1,ej,λu H2 s2 r2=>⟨i,j,by rw[r1.rd.int,r2.rd.int],⟨hj.1.1,hj.1.2,hj.2.1,hj.2.2⟩,q _ H2 [] (zBX (s1.trans s2)) (by rw[append_nil];exact ms.cells.same (s1.trans s2)) (rngJ i _)⟩⟩⟩
  .rw [if_neg hj] at ex;cases ex
 .cases ex
end
def zBL (np nN:Nat)(g:Mst->Option OutM):MF:=λws O =>
 if ws.length=np/\np<=nN then (g ⟨ws.map some++List.replicate (nN - np) none,O⟩).bind λo=>match o with
  | .rt r=>some r
  | .nx s=>some (.dat .non,s.O)
  | _=>none
 else none
theorem zHt {K:W.Frag}(c:zAL K H U O)(h:DenWL K H U ws vs)(hl:ws.length<=N.length):MS K H U O (zB0 N vs) (ws.map some++List.replicate (N.length - ws.length) none):=by
 have el:=h.length;refine⟨c,?_,λi w q=>?_⟩
 .unfold L2.zB0;rw[qQ,qQ,qy,qy,length_replicate,length_replicate];omega
 .have hi:i < ws.length:=by
   by_cases z:i < ws.length
   .exact z
   .rw [getElem?_append_right (by simpa using z),getElem?_replicate] at q;split at q<;>cases q
  rw[getElem?_append_left (by simpa using hi),List.getElem?_map] at q;cases e:ws[i]? with
  | none=>rw[e] at q;cases q
  | some w' =>
   rw[e] at q;cases q;obtain⟨v,q1,q2⟩:=h.get e;refine⟨v,?_,q2⟩;unfold L2.zB0;rw[getElem?_append_left (by rw[qy,<- el];exact hi),List.getElem?_map,q1]
   rfl
theorem zQV {K:W.Frag}{st:Stmt}(F:Fun K x qual st f fd)(S:zAi N ps (zAA st))
  (hbody:∀ (cdv:Value) (A:Around) (outer:List Env) (s:Shared) (H:Hp) (E:XK),Room k (A.deeper (envOfC qual (zAA st) s.heap.objs.size f cdv))->GSsM (cxOf CX0 P w K mg base N qual (zAA st) f cdv A outer s H E).nox (zAK st) g) :
  FnOk P w K mg base CX0 (k+1) f fd ps (spM K (zBL ps.length N.length g)):=by
 refine F.ok S (λvs H Q E h=>?_) λcdv A outer s H vs Q E hr h=>?_
 .obtain ⟨U,O,ws,r,c,d,hF,n⟩:=h;unfold zBL at hF;by_cases q:ws.length=ps.length/\ps.length<=N.length
  .rw [<- d.length];exact q.1
  .rw [if_neg q] at hF;cases hF
 obtain⟨U,O,ws,r,c,d,hF,n⟩:=h;refine⟨_,hbody cdv A outer s H E hr H U,?_⟩;unfold zBL at hF;by_cases q:ws.length=ps.length/\ps.length<=N.length
 .rw [if_pos q] at hF;obtain⟨o,eo,hF⟩:=bind_some hF;rw[<- q.1] at eo;refine⟨[],_,o,by rw[append_nil];exact zHt c d (by rw[q.1];exact q.2),Kp.refl H,eo,?_⟩;cases o with
  | nx s' =>
   cases hF;exact λM B' H' m k=>n _ H' M k m.cells (by rw[DenW,Den])
  | rt r' =>
   cases hF;exact λM v H' c' d' k=>n v H' M k c' d'
  | bk _=>cases hF
  | ct _=>cases hF
 .rw [if_neg q] at hF;cases hF
theorem walkM {l:W.OpenLaw}{K:Params->W.Frag}(hn:l.most=some 63)(hdf:d.params.defaults=[])(hq:importsNone q=true)(ht:∀ w,(model l.prog w).prog.given.tree=none)(hr:Room k callerA)(tl:List (Str×Addr×Addr))(hrec:∀ (w:World) (h:Heap),YP w h->∀ t∈tl,W.CodeHd h t.2.1 t.2.2/\h.get? t.2.2=some (W.tabObj #[]))(htl:∀ w:World,∀ x∈zBx,tabQ (K w.params) x=tl.lookup x)(htk:∀ t∈tl,t.1∈zBx/\tl.lookup t.1=some t.2)(hnd:(tl.map λt=>t.2.2).Nodup)(hnt:∀ w:World,W.noTabs (K w.params)=true)
  (hY:∀ (w:World) (h:Heap),YP w h->(K w.params).In h)
  (FF:∀ (w:World) (mg:Str->Option Value) (fa:Addr) (h:Heap),(K w.params).In h->h.Ns mainGlobals mg->mg d.name=some (.ref fa) ->
   ∃ fd:FuncData,(∀ (s:Shared) (u:Value),BindsTo s fd ⟨[u],[]⟩ [("_law_script",u)])/\∀ base:Heap,(K w.params).In base->base.Ns mainGlobals mg->FnOk l.prog w (K w.params) mg base CX0 k fa fd ["_law_script"] (spM (K w.params) F))
  (tr:∀ ns:List Int,ns.length<=63->∃ O,F [.dat (.lst (ns.map D.int))] []=some (.dat (.bl true),O)) :
  W.WalkO q loose XP YP l.row.toRowW d [] (λf vs=>PySem.call f vs) :=
 L2.zOm (n:=63) (k:=k) (x := "_law_script") (CX:=λ_=>CX0) (sp:=λw=>spM (K w.params) F) hn (by decide) hdf hq ht hr tl hrec htl htk hnd hnt hY FF (λw H a ns hl hO hS=>by
   obtain⟨O,eF⟩:=tr ns hl.1;have sq:SqL (K w.params) (fzH H) a (ns.map V.int):=by
    rcases hS with (h | ⟨o,h⟩) | h
    .exact (hO _ h).elim
    .exact .inl (.inr ⟨o,zEP h⟩)
    .exact .inr h
   refine⟨[],[],[.dat (.lst (ns.map D.int))],_,⟨rfl,by simp,λn ws z=>by simp at z⟩,.cons ?_ .nil,eF,λv H' M k c d=>?_⟩
   .rw [DenW,Den];exact⟨a,_,rfl,sq,DenL.ints ns⟩
   .rw [DenW,Den] at d;exact d) λ_ _ _ _ _ z=>z
end DL
end
section
namespace DL
open PySem Spec PyProof.Rows L2
def zB6 (t:W->Mst->Option Mst)(e:Mst->Option MR)(src:Src):Nat->Nat->Mst->List W->Option MA
 | 0,_,_,_=>none
 | f+1,i,s,done=>(itm s.O src).bind λws=>match ws[i]? with
  | none=>some (done,s.O)
  | some w=>(t w s).bind λs1=>(e s1).bind λr=>if done.length<=10000 then zB6 t e src f (i+1) ⟨s1.G,r.2⟩ (done++[r.1]) else none
theorem zE3 :∀ {f i:Nat} {s:Mst} {d:List W} {o:MA},zB6 t e src f i s d=some o->zB6 t e src (f+1) i s d=some o
 | 0,_,_,_,_,h=>by cases h
 | f+1,i,s,d,o,h=>by
  rw[zB6] at h ⊢;obtain⟨ws,e1,h⟩:=bind_some h;rw[e1,qx];cases q:ws[i]? with
  | none=>rw[q] at h;exact h
  | some w =>
   rw[q] at h;dsimp only at h ⊢;obtain⟨s1,e2,h⟩:=bind_some h;obtain⟨r,e3,h⟩:=bind_some h;rw[e2,qx,e3,qx];by_cases l:d.length<=10000
   .rw [if_pos l] at h ⊢;exact zE3 (f:=f) h
   .rw [if_neg l] at h;cases h
theorem zE4 (h:zB6 t e src f i s d=some o)(l:f<=g):zB6 t e src g i s d=some o:=by
 induction g with
 | zero =>
      have:f=0:=by omega
      subst this;exact h
 | succ g ih =>
  by_cases q:f<=g
  .exact zE3 (ih q)
  .have:f=g+1:=by omega
   subst this;exact h
open Classical in
def zE5 (t:W->Mst->Option Mst)(e:Mst->Option MR)(src:Src)(s:Mst):Option MA :=
 if h:∃ n o,zB6 t e src n 0 s []=some o then some (Classical.choose (choose_spec h)) else none
theorem zLd (h:zB6 t e src n 0 s []=some o):zE5 t e src s=some o:=by
 have ex:∃ n o,zB6 t e src n 0 s []=some o:=⟨n,o,h⟩;unfold zE5;rw[dif_pos ex];have q:=choose_spec (choose_spec ex);have q1:=zE4 q (Nat.le_max_left _ n);have q2:=zE4 h (Nat.le_max_right (Classical.choose ex) n);rw[q1] at q2;exact q2
theorem zIz (h:zE5 t e src s=some o):∃ n,zB6 t e src n 0 s []=some o:=by
 unfold zE5 at h;by_cases ex:∃ n o,zB6 t e src n 0 s []=some o
 .rw [dif_pos ex] at h;have q:=choose_spec (choose_spec ex);cases h;exact⟨_,q⟩
 .rw [dif_neg ex] at h;cases h
def zHQ (ms:List Nat)(k:Nat)(f:Mst->Option (Src×Mem))(t:W->Mst->Option Mst)(e:Mst->Option MR):Mst->Option MR:=λs =>
 (f s).bind λz=>(zE5 t e z.1 ⟨mask none ms s.G++List.replicate k none,z.2⟩).bind λy=>if y.1.length<=10000 then some (.loc y.2.length,y.2++[y.1]) else none
theorem zGa (h:zHQ ms k f t e s=some r):∃ z y N,f s=some z/\zB6 t e z.1 N 0 ⟨mask none ms s.G++List.replicate k none,z.2⟩ []=some y/\y.1.length<=10000/\r=(.loc y.2.length,y.2++[y.1]):=by
 obtain⟨z,e1,h⟩:=bind_some h;obtain⟨y,e2,h⟩:=bind_some h;obtain⟨N,eN⟩:=zIz e2;by_cases l:y.1.length<=10000
 .rw [if_pos l] at h;cases h;exact⟨z,y,N,e1,eN,l,rfl⟩
 .rw [if_neg l] at h;cases h
theorem MS.ext {K:W.Frag}(h:MS K H U O B G)(ms:List Nat)(k:Nat):MS K H U O (mask none ms B++List.replicate k none) (mask none ms G++List.replicate k none):=by
 refine⟨h.cells,by rw[qQ,qQ,zA0,zA0,h.len,length_replicate,length_replicate],λi w q=>?_⟩;obtain⟨q,hi⟩:=zBu q;rcases zBJ q with ⟨z,_⟩ | ⟨q,ni⟩
 .cases z
 .obtain ⟨v,w1,w2⟩:=h.get i w q;exact⟨v,by rw[getElem?_append_left (by rw[zA0] at hi ⊢;rw[h.len];exact hi),zFZ ni];exact w1,w2⟩
section
variable {X:Cx}
theorem zE2 {tg iter elt:Expr}{scope:Scope}{pos:Pos}{ms:List Nat}{xs:List Str}{f:Mst->Option (Src×Mem)}{t:W->Mst->Option Mst}{e:Mst->Option MR}(hcalm:X.calm=true)(hi:GIM X tg iter f)(cs:zCg X.env.scope scope)
  (hm:∀ (i:Nat) x,X.N[i]?=some x->ownB scope x=true->i∈ms)
  (hg:∀ s H fp,GGM (zAV X (mask noN ms X.N++xs) scope s H fp) tg t)
  (he:∀ s H fp,GM (zAV X (mask noN ms X.N++xs) scope s H fp) elt e)
  {pins:List (Addr×Obj)} {s:Shared} {B:St} {H:Hp} {U:List Addr} {G:List (Option W)} {O:Mem} {z:Src×Mem} {y:MA} {NN:Nat} (I:Inv X pins B H s) (mst:MS X.K H U O B G) (ez:f ⟨G,O⟩=some z) (hyl:y.1.length<=10000) (ey:zB6 t e z.1 NN 0 ⟨mask none ms G++List.replicate xs.length none,z.2⟩ []=some y)
  {RR:Value->Addr->Result->Shared->Prop}
  (fin:∀ (D C:Addr) (s1:Shared) (H'':Hp) (m:Str->Option Value),s1.heap.Ns C m->(∀ h',Heap.SameBut C s1.heap h'->Inv X pins B H'' { s1 with heap:=h' })->H'' C=none->C≠X.env.locals->C∉X.fs->X.s0.heap.objs.size<=C ->
   (∀ x c,X.env.cells.lookup x=some c->c≠C)->(∀ p∈X.pn++pins,p.1≠C)->(∃ M,Kp H H''/\zAL X.K H'' (U++M) (y.2++[y.1])/\DenW X.K H'' (U++M) (.loc y.2.length) (.ref D))->RR (.ref D) C (.ok .next) s1) :
  wpAny (model X.prog X.w) X.A (eval iter X.env) (λx O2=>wpAny (model X.prog X.w) X.A (pyIter x) (λit O9=>wpAny (model X.prog X.w) X.A (newList []) (λacc Y2 =>
   wpAny (model X.prog X.w) X.A (newFunctionEnv scope X.env.globals (zB7 X.env scope.names []) [] X.env.qual none .none (some X.env)) (λcenv Y5 =>
    codeAny (model X.prog X.w) X.A (.compStart (.ListComp elt [⟨tg,iter,[],0⟩] scope pos) 0 it acc { cenv with scope:=relabel scope X.env }) (RR acc cenv.locals) Y5) X.xe Y2) X.xe O9) X.xe O2) X.xe s:=by
 obtain⟨wi,hwi,hI⟩:=hi;refine thn (hwi pins s B H (λJ H1=>∃ M,Kp H H1/\zAL X.K H1 (U++M) z.2/\JOk X.K J z.1 H1 (U++M)) I (hI B H U G O z _ mst ez λJ H1 M k1 c1 hJ=>⟨M,k1,c1,hJ⟩)) λv s1 h1=>thn h1 λitv s2 h2=>?_
 obtain⟨it,fp,tn,J,H2,rfl,I2,T,st2,f2,M0,k12,c12,hJ⟩:=h2;have mst2:MS X.K H2 (U++M0) z.2 B G:=mst.next k12 c12;refine wpAny_newObj_type (zEH ?_);have e3:∃ s3:Shared,s3={ s2 with heap:=s2.heap.push { cls:=.type "list",dict:=none,data:=.seq ([]:List Value).toArray } }:=⟨_,rfl⟩;obtain⟨s3,hs3⟩:=e3;rw[<- hs3];have eD:∃ D,D=s2.heap.objs.size:=⟨_,rfl⟩;obtain⟨D,hD⟩:=eD;rw[<- hD];have hC:s3.heap.objs.size=D+1:=by rw[hs3,hD];exact Heap.size_push ..
 have k23:∀ b o,s2.heap.get? b=some o->s3.heap.get? b=some o:=λb o q=>by rw[hs3];exact get?_push_of_some _ q
 have I3:Inv X pins B H2 s3:=by rw[hs3];exact I2.kept (t':=s2.toks) λb o q=>get?_push_of_some _ q
 have oD:s3.heap.get? D=some { cls:=.type "list",data:=.seq ([]:List Value).toArray }:=by rw[hs3,hD];exact get?_push_size _ rfl
 have H2D:H2 D=none:=by rw[hD];exact I2.hok.fresh (le_refl _)
 have fplt:∀ b∈fp,b < D:=λb hb=>by
  obtain⟨o,q,_⟩:=T.obj _ _ st2 b hb;rw[hD];exact lt_size q
 have hfD:∀ b∈D::fp,FpOk X pins H2 b/\∃ o,s3.heap.get? b=some o:=λb hb=>by
  rcases mem_cons.mp hb with rfl | hb
  .exact ⟨I2.fpOk (by rw[hD];exact le_refl _) H2D,_,oD⟩
  .obtain ⟨o,q,_⟩:=T.obj _ _ st2 b hb;exact⟨f2 b hb,o,k23 b o q⟩
 have lenN:(mask none ms B++List.replicate xs.length none).length=(mask noN ms X.N++xs).length:=by
  rw[qQ,qQ,zA0,zA0,length_replicate,I.len]
 have Ic:=zHx (fp:=D::fp) (N:=mask noN ms X.N++xs) (σc:=mask none ms B++List.replicate xs.length none) I3 hfD cs (λi x v q1 q2 q3=>by
  obtain⟨q2,hi2⟩:=zBu q2;rcases zBJ q2 with ⟨z,_⟩ | ⟨q2,ni⟩
  .cases z
  have hiN:i < (mask noN ms X.N).length:=by rw[zA0] at hi2 ⊢;rw[<- I.len];exact hi2
  rw[getElem?_append_left hiN] at q1;rcases zBJ q1 with ⟨_,z⟩ | ⟨q1,_⟩
  .exact absurd z ni
  refine⟨?_,i,q1,q2⟩;have no:ownB scope x=false:=by
   cases b:ownB scope x with
   | false=>rfl
   | true=>exact absurd (hm i x q1 b) ni
  unfold Vis relS at q3;rw[zCk] at q3;unfold ownB at no;cases w:scope.names.lookup x with
  | none=>rw[w] at q3;simp at q3
  | some k =>
   rw[w] at no;cases k with
   | free=>rfl
   | «local»=>cases no
   | cell=>cases no
   | _=>rw[w] at q3;simp at q3) lenN
 have st4:tn 0 (pushCells (s3.heap.push { cls:=.type "dict",data:=.dict #[] }) scope.names):=T.keep 0 _ _ st2 λb hb o q=>zAk _ _ b o (get?_push_of_some _ (k23 b o q))
 have loop:codeAny (model X.prog X.w) X.A (.compLoop (.ListComp elt [⟨tg,iter,[],0⟩] scope pos) 0 (.ref it) (.ref D) (zBf scope X s3)) (RR (.ref D) s3.heap.objs.size) { s3 with heap:=pushCells (s3.heap.push { cls:=.type "dict",data:=.dict #[] }) scope.names }:=by
  refine zDm (λn s'=>∃ (i:Nat) (B':St) (H':Hp) (L:List Addr) (st':Mst) (done:List W) (vs:List V) (its:List Value),Inv (zAV X (mask noN ms X.N++xs) scope s3 H2 (D::fp)) [] B' H' s'/\tn i s'.heap/\(∀ b∈D::fp,H' b=none)/\s'.heap.PlainList D its.toArray/\Vals vs its/\MS X.K H' (U++M0++L) st'.O B' st'.G /\
   Kp H2 H'/\DenWL X.K H' (U++M0++L) done vs/\zB6 t e z.1 n i st' done=some y) ?_ NN
   ⟨0,_,H2,[],⟨mask none ms G++List.replicate xs.length none,z.2⟩,[],[],[],Ic,st4,λb hb=>(hfD b hb).1.1,⟨_,zAk _ _ D _ (get?_push_of_some _ oD)⟩,.nil,by rw[append_nil];exact mst2.ext ms xs.length,Kp.refl _,.nil,ey⟩
  rintro n s' ⟨i,B',H',L,st0,done,vs,its,Ic',st',fr',⟨nD,pl⟩,rv,ds',sm,dn,ec⟩;cases n with
  | zero=>cases ec
  | succ n =>
  rw[zB6] at ec;obtain⟨ws,ew,ec⟩:=bind_some ec;obtain⟨j1,j2⟩:=hJ i H' L st0.O ws sm ds'.cells ew;have fpc:∀ {b:Addr} {pn:List (Addr×Obj)} {Hx:Hp},b∈D::fp->Hx b=none->(∀ p∈pn,p.1≠b)->FpOk (zAV X (mask noN ms X.N++xs) scope s3 H2 (D::fp)) pn Hx b:=λ{b pn Hx} hb hn hp =>
   ⟨hn,(Ic'.ok.exf b hb).1,Ic'.ok.exfs b hb,.inl hb,(Ic'.ok.exf b hb).2,λp hp'=>hp p (show p∈pn from hp')⟩
  have pinD:∀ {p:Addr×Obj} {h:Heap},p∈zBG [D] h->p.1=D:=λ{p h} hp=>by simpa using (zEF hp).1
  have I0:Inv (zAV X (mask noN ms X.N++xs) scope s3 H2 (D::fp)) ([]++zBG [D] s'.heap) B' H' s':=Ic'.pinned (fp:=[D]) (λb hb=>by
   have eb:b=D:=by simpa using hb
   subst eb;exact fpc q8 (fr' _ q8) λp hp=>absurd hp (by simp)) λb hb=>by
   have eb:b=D:=by simpa using hb
   subst eb;exact⟨_,pl,λv z=>by cases z⟩
  have fp0:∀ b∈fp,FpOk (zAV X (mask noN ms X.N++xs) scope s3 H2 (D::fp)) ([]++zBG [D] s'.heap) H' b:=λb hb=>fpc (qJ _ hb) (fr' b (qJ _ hb)) λp hp z=>by
   have q1:=pinD (by simpa using hp);have q2:=fplt b hb;rw[<- z,q1] at q2;exact absurd q2 (lt_irrefl _)
  have memD:(D,_)∈zBG [D] s'.heap:=zBh (by simp) pl;cases hq:ws[i]? with
  | some w0 =>
   rw[hq] at ec;dsimp only at ec;obtain⟨go,yl⟩:=j2 w0 hq;refine wpAny_mono (T.item (zAV X (mask noN ms X.N++xs) scope s3 H2 (D::fp)) rfl rfl rfl hcalm i ([]++zBG [D] s'.heap) s' B' H' _ I0 fp0 st' go) (λr s4 zz97=>?_) λ_ _ z=>z
   obtain⟨u,hr,h4⟩:=zz97;subst hr;refine wpAny_mono h4 (λ_ s5 zz98=>?_) λ_ _ z=>z
   obtain⟨x,H5,I5,r5,y5,st5,fr5⟩:=zz98;obtain⟨rfl,hv⟩:=yl x H5 y5;have pl5:=(I5.pin (D,_) (xq _ (xq _ memD))).1;have I5':Inv (zAV X (mask noN ms X.N++xs) scope s3 H2 (D::fp)) ([]++zBG (D::fp) s5.heap) B' H5 s5:=I5.unpinned.pinned (fp:=D::fp) (λb hb=>fpc hb (fr' b hb) λp hp=>absurd hp (by simp)) λb hb=>by
    rcases mem_cons.mp hb with rfl | hb
    .exact ⟨_,pl5,λv z=>by cases z⟩
    .exact T.obj _ _ st5 b hb
   have there:∀ {Hx:Hp} {sx:Shared} {Bx:St},Inv (zAV X (mask noN ms X.N++xs) scope s3 H2 (D::fp)) ([]++zBG (D::fp) s5.heap) Bx Hx sx->∀ b∈D::fp,(∀ o,s5.heap.get? b=some o->sx.heap.get? b=some o)/\Hx b=none:=λ{Hx sx Bx} Ix b hb=>by
    have q:∃ o,s5.heap.get? b=some o:=by
     rcases mem_cons.mp hb with rfl | hb
     .exact ⟨_,pl5⟩
     .obtain ⟨o,q,_⟩:=T.obj _ _ st5 b hb;exact⟨o,q⟩
    obtain⟨o,q⟩:=q;have w:=Ix.pin (b,o) (xq _ (xq _ (zBh hb q)));exact⟨λo' q'=>by rw[q] at q';cases q';exact w.1,w.2.1⟩
   obtain⟨st1,e1,ec⟩:=bind_some ec;obtain⟨r,er,ec⟩:=bind_some ec;by_cases hdl:done.length<=10000
   case neg=>rw[if_neg hdl] at ec;cases ec
   rw[if_pos hdl] at ec;obtain⟨g,hg1,hg2⟩:=hg s3 H2 (D::fp);refine wpAny_mono (hg1 _ s5 B' H5 x u _ I5' r5 (hg2 w0 x B' H5 (U++M0++L) st0 st1 (λB6 H6=>H6=H5/\MS X.K H5 (U++M0++L) st1.O B6 st1.G) ds' hv e1 λB6 d6=>⟨rfl,d6⟩)) (λ_ s6 zz99=>?_) λ_ _ z=>z.elim
   obtain⟨B6,H6,I6,q6,ds6⟩:=zz99;subst q6;refine wpAny_tests_nil ?_;rw[if_pos rfl];refine wpAny_mono (he s3 H2 (D::fp) _ s6 B6 H6 (λv H8=>∃ O3,Kp H6 H8/\zAL X.K H8 (U++M0++L++O3) r.2/\DenW X.K H8 (U++M0++L++O3) r.1 v) I6 ⟨U++M0++L,st1.G,st1.O,r,ds6,er,λv H8 O3 k8 c8 d8=>⟨O3,k8,c8,d8⟩⟩) (λuv s8 zz100=>?_) λ_ _ z=>z.elim
   obtain⟨v,H8,I8,rv8,O3,k8,c8,d8⟩:=zz100;have assoc:U++M0++L++O3=U++M0++(L++O3):=by simp
   have pl8:=(there I8 D q8).1 _ pl5;refine wpAny_list_append_plain (hsz:=by rw[xy,<- rv.length,<- dn.length];exact zCs hdl) ⟨nD,pl8⟩ λh9 hl9 hs9=>?_
   have I9:Inv (zAV X (mask noN ms X.N++xs) scope s3 H2 (D::fp)) [] B6 H8 { s8 with heap:=h9 }:=I8.unpinned.turned (it:=D) (t':=s8.toks) (λb o hb q=>hs9.extBut b o hb q) (there I8 D q8).2 (Ic'.ok.exf D q8).1 (.inl q8) (Ic'.ok.exf D q8).2 λp hp=>absurd (show p∈([]:List (Addr×Obj)) from hp) (by simp)
   have ms8:=ds6.next k8 c8;rw[assoc] at ms8 d8;refine⟨n,Nat.lt_succ_self n,i+1,B6,H8,L++O3,⟨st1.G,r.2⟩,done++[r.1],vs++[v],its++[uv],I9,T.keep _ _ _ st5 λb hb o q=>hs9.extBut b o (λz=>?_) ((there I8 b (qJ _ hb)).1 o q),λb hb=>(there I8 b hb).2,?_,rv.append (.cons rv8 .nil),ms8,
    sm.trans k8,DenWL.append (by rw[<- assoc];exact dn.mono k8 O3) (.cons d8 .nil),ec⟩
   .have:=fplt b hb;rw[z] at this;exact absurd this (lt_irrefl _)
   .have ea:its.toArray.push uv=(its++[uv]).toArray:=by simp
    rw[<- ea];exact hl9
  | none =>
   rw[hq] at ec;cases ec;refine wpAny_mono (T.done (zAV X (mask noN ms X.N++xs) scope s3 H2 (D::fp)) rfl rfl rfl hcalm _ ([]++zBG [D] s'.heap) s' B' H' _ I0 fp0 st' (j1 hq)) (λr s4 zz101=>?_) λ_ _ z=>z
   obtain⟨hr,I4⟩:=zz101;subst hr;obtain⟨m,ns,_⟩:=id I4.loc;have eC:(zAV X (mask noN ms X.N++xs) scope s3 H2 (D::fp)).env.locals=D+1:=hC;rw[eC] at ns;have pl4:=I4.pin (D,_) (xq _ (xq _ memD));have HD:H' D=none:=pl4.2.1;have HC:H' (D+1)=none:=by have:=I4.free;rw[eC] at this;exact this
   have CD:D≠D+1:=ne_of_lt (Nat.lt_succ_self D);have neD:∀ {b:Addr} {o:HO},H' b=some o->b≠D:=λ{b o} q z=>by rw[z,HD] at q;cases q
   have ne2:∀ {b:Addr} {o:HO},H2 b=some o->b≠D:=λ{b o} q z=>by rw[z,H2D] at q;cases q
   have lt2:∀ {b:Addr} {o:Obj},s2.heap.get? b=some o->b < D:=λ{b o} q=>by rw[hD];exact lt_size q
   have outex:∀ {b:Addr} {o:Obj},s2.heap.get? b=some o->b∉fp->b∉D::fp:=λ{b o} q hx z=>(mem_cons.mp z).elim (λz=>absurd (lt2 q) (by rw[z];exact lt_irrefl _)) hx
   have neC:∀ {b:Addr} {o:Obj},s2.heap.get? b=some o->b≠D+1:=λ{b o} q=>ne_of_lt (Nat.lt_succ_of_lt (lt2 q))
   have gt2:s2.heap.objs.size<=D+1:=by rw[<- hD];exact Nat.le_succ _
   show RR (.ref D) s3.heap.objs.size (.ok .next) s4;rw[hC];refine fin D (D+1) s4 (upd H' D (.lst vs)) m ns (λh' sb=>?_) ?_ (Nat.ne_of_gt (xQ I2.lt gt2)) (I2.nofs gt2) (le_trans I2.sz gt2) (λx c q z=>?_) (λp hp z=>?_) ?_
   .refine I2.call' (s':={ s4 with heap:=h' }) (ch:=fp) ?_ ⟨λb o q n hb hx=>sb.extBut b o (neC q) (I4.base.keep b o (k23 b o q) n hb (outex q hx)),λb o q n hb hx=>?_,λb o q n hx=>?_,λb o q hx=>?_,λb ws q=>?_,λb o w q=>?_,λb ps q=>?_⟩ (λb w q=>?_) I4.bare λb hb=>?_
    .have:=I4.os;rw[hs3] at this;exact this
    .obtain ⟨sl,w⟩:=I4.base.slot b o (k23 b o q) n hb (outex q hx);exact⟨sl,sb.extBut b _ (neC q) w⟩
    .rw [zAP (ne_of_lt (lt2 q))];exact I4.base.free b o (k23 b o q) n (outex q hx)
    .obtain ⟨o',w⟩:=I4.base.there b o (k23 b o q) (outex q hx);exact⟨o',sb.extBut b _ (neC q) w⟩
    .rw [zAP (ne2 q)];exact I4.base.tups b ws q
    .rw [zAP (ne2 q)];exact I4.base.frzs b o w q
    .rw [zAP (ne2 q)];exact I4.base.tbls b ps q
    .by_cases z:b=D
     .subst z;rw[zAh] at q;cases q;exact⟨by rw[<- dn.length];exact zCs hyl,its,nD,rv,sb.extBut b _ CD pl4.1⟩
     .rw [zAP z] at q;refine(I4.hok b w q).stay (λd v hd w'=>sb.extBut d v (λz'=>?_) w') (λd w'=>by rw[zAP (neD w')];exact w') (λd ws w'=>by rw[zAP (neD w')];exact w') λd ob u w' _=>by rw[zAP (neD w')];exact w'
      rcases hd with hd | hd
      .rw [<- hd,z',HC] at q;cases q
      .rw [z',HC] at hd;cases hd
    .obtain ⟨f0,f1,f2',f3,f4,f5⟩:=f2 b hb;exact⟨f3,f1,f4,f5⟩
   .rw [zAP (Ne.symm CD)];exact HC
   .obtain ⟨v,w⟩:=I2.cell x c q;have:=w.lt;rw[z,<- hD] at this;exact absurd (Nat.lt_trans this (Nat.lt_succ_self D)) (lt_irrefl _)
   .have:=lt_size (I2.pin p hp).1;rw[z,<- hD] at this;exact absurd (Nat.lt_trans this (Nat.lt_succ_self D)) (lt_irrefl _)
   .have s9:Same H' (upd H' D (.lst vs)):=zAp HD _;refine⟨M0++L++[D],k12.trans (sm.trans (zBX s9)),?_,?_⟩
    .rw [show U++(M0++L++[D])=U++M0++L++[D] by simp];exact ds'.cells.new s9 HD zAh (dn.mono (zBX s9) [D])
    .rw [show U++(M0++L++[D])=U++M0++L++[D] by simp];exact zKU ds'.cells
 exact codeAny_compStart_list loop (T.self X.A 0 _ _ _ st4 loop)
theorem zKo (hcalm:X.calm=true)(hi:GIM X tg iter f)(hs:∀ x,foldedSetIterable iter X.env x=pure x)(cs:zCg X.env.scope scope)
  (hm:∀ (i:Nat) x,X.N[i]?=some x->ownB scope x=true->i∈ms)
  (hg:∀ s H fp,GGM (zAV X (mask noN ms X.N++xs) scope s H fp) tg t)
  (he:∀ s H fp,GM (zAV X (mask noN ms X.N++xs) scope s H fp) elt e) :
  GM X (.ListComp elt [⟨tg,iter,[],0⟩] scope pos) (zHQ ms xs.length f t e):=by
 intro pins s B H Q I ⟨U,G,O,r,mst,er,cc⟩;obtain⟨z,y,NN,ez,ey,hyl,rfl⟩:=zGa er;rw[eval_ListComp];refine wpAny_comprehension_free (use:=none) rfl hs (zBg (zEZ I cs)) cs.kind (zCn cs) ?_;refine zE2 (RR:=λacc C=>compPost (model X.prog X.w) X.A X.xe none (EP X pins B Q) acc C) hcalm hi cs hm hg he I mst ez hyl ey λD C s1 H'' m ns hI _ _ _ _ _ _ fin=>?_
 obtain⟨M,k,c1,d1⟩:=fin;exact⟨m,ns,λh' sb=>⟨.ref D,H'',hI h' sb,rfl,cc _ H'' M k c1 d1⟩⟩
end
end DL
end
section
namespace DL
open PySem Spec PyProof.Rows L2
section
variable {X:Cx}
theorem zM1 (hcalm:X.calm=true)(hi:GIM X tg iter f)(hs:∀ x,foldedSetIterable iter X.env x=pure x)(cs:zCg X.env.scope scope)
  (hm:∀ (i:Nat) x,X.N[i]?=some x->ownB scope x=true->i∈ms)
  (hg:∀ s H fp,GGM (zAV X (mask noN ms X.N++xs) scope s H fp) tg t)
  (he:∀ s H fp,GM (zAV X (mask noN ms X.N++xs) scope s H fp) elt e)
  (hN:X.N.Nodup) (hy:X.N[i]?=some y) (hl:Loc X.env.scope y) (hf:X.fn y=true\/X.env.scope.names.lookup y=some .local) :
  GSM X (.Assign [.Name y py] (.ListComp elt [⟨tg,iter,[],0⟩] scope pos) spos) (setM i (zHQ ms xs.length f t e)):=by
 have hge:GM X (.ListComp elt [⟨tg,iter,[],0⟩] scope pos) (zHQ ms xs.length f t e):=zKo hcalm hi hs cs hm hg he;have hb:∃ b,swapsWith (.ListComp elt [⟨tg,iter,[],0⟩] scope pos) (some (.Name y py)) spos.line X.env=pure b:=⟨_,rfl⟩;obtain⟨b,hb⟩:=hb;cases b with
 | false=>exact zKk hN hy hl hge hb hf
 | true =>
  intro H0 α0 pins s B H E I ⟨M,st,o,mst,kp,eo,p⟩;obtain⟨r,er,eo⟩:=bind_some eo;cases eo;obtain⟨z,yy,NN,ez,ey,hyl,rfl⟩:=zGa er;rw[exec_Assign_Name_used _ _ _ _ hb];refine qX (wpAny_standAt (qX ?_));show wpAny _ X.A (do let _<-comprehension (.ListComp elt [⟨tg,iter,[],0⟩] scope pos) scope X.env _ (newList []) false (eval iter X.env) (some (assign (.Name y py) X.env))) _ _ s;refine qX (wpAny_mono (wpAny_comprehension_free (use:=some (assign (.Name y py) X.env)) (Q:=λ_ s'=>SP X pins E .next s') rfl hs (zBg (zEZ I cs)) cs.kind (zCn cs) ?_) (λ_ s' hq=>q9 (q9 hq)) λ_ _ e=>e);refine zE2 (RR:=λacc C=>compPost (model X.prog X.w) X.A X.xe (some (assign (.Name y py) X.env)) (λ_ s'=>SP X pins E .next s') acc C) hcalm hi cs hm hg he I mst ez hyl ey λD C s1 H'' m ns hI hC1 hC2 hC3 hC4 hC5 hC6 fin=>?_
  have I1:Inv X pins B H'' s1:=hI s1.heap (Heap.SameBut.refl ..);obtain⟨oC,es,ep,ho,hd,w3⟩:=id ns;have I2:Inv X (pins++[(C,oC)]) B H'' s1:=I1.pins_of λq hq=>(mem_append.mp hq).elim (λz=>I1.pin q (xq _ z)) λz=>by
   have e:q=(C,oC):=by simpa using z
   subst e;exact⟨ho,hC1,hC2,hC3,λv z=>by rw[hd] at z;cases z⟩
  show wpAny (model X.prog X.w) X.A (assign (.Name y py) X.env (.ref D)) _ X.xe s1;refine thn (zFU hN hy hl hf _ s1 B H'' (.ref D) (.ref D) (λB6 H6=>H6=H''/\B6=B.set i (some (.ref D))) I2 rfl ⟨rfl,rfl⟩) λ_ s6 zz102=>?_
  obtain⟨B6,H6,I6,q1,q2⟩:=zz102;subst q1 q2;have pc:=I6.pin (C,oC) (xq _ (xq _ (by simp)));refine⟨m,⟨oC,es,ep,pc.1,hd,w3⟩,λh' sb=>?_⟩;refine⟨_,H6,I6.unpinned.turned (it:=C) (t':=s6.toks) (λb o hb q=>sb.extBut b o hb q) hC1 (Ne.symm (Ne.symm hC2)) (.inr hC4) hC5 hC6,?_⟩;obtain⟨M2,k2,c2,d2⟩:=fin;have m2:=(mst.next k2 c2).set (i:=i) d2;rw[q0] at m2;exact p (M++M2) _ _ m2 (kp.trans k2)
end
inductive SK where
 | mth (c m:Str) | mk (c:Str)
 deriving DecidableEq
noncomputable def spec:List (Str×SK):=[("Fill.films",.mth "Fill" "films"),("Rub.films",.mth "Rub" "films"),("Masked.films",.mth "Masked" "films"),("Join.films",.mth "Join" "films"),("Group.films",.mth "Group" "films"),("Fill()",.mk "Fill"),("Rub()",.mk "Rub"),("Join()",.mk "Join"),("Group()",.mk "Group")]
abbrev Dm:=List (Str×MF)
def spI (K:W.Frag)(C:Addr)(F:MF):Sp:=λvs H Q _=>∃ x dx H1 us U O ws r,vs=.ref x::us/\H1 x=none/\H1 dx=none/\dx≠x/\H=upd (upd H1 dx (.own x)) x (.ins C dx [])/\zAL K H1 U O/\DenWL K H1 U ws us/\F ws O=some r /\
 ∀ H' M,Kp H1 H'->zAL K H' (U++M) r.2->DenW K H' (U++M) r.1 (.ref x)->Q .non H'
def KB (K:W.Frag)(fd:FuncData)(ps:List Str)(kw:Str):Prop:=∀ (s:Shared) (us:List Value) (u:Value),K.In s.heap->(us++[u]).length=ps.length->BindsTo s fd ⟨us,[(kw,u)]⟩ (ps.zip (us++[u]))
def zL2 (P:Program)(w:World)(K:W.Frag)(mg:Str->Option Value)(base:Heap)(k:Nat)(x:Str)(F:MF):Option SK->Prop
 | none=>∃ f fd ps,FnOk P w K mg base CX0 k f fd ps (spM K F)/\mg x=some (.ref f)/\W.keepIn K (.ref f)=true/\zBU K fd ps []
 | some (.mth c m)=>∃ C f fd ps,zCS K c C/\Cls K C/\Meth K C m f/\FnOk P w K mg base CX0 k f fd ps (spM K F)/\zBU K fd ps []
 | some (.mk c)=>∃ j C f fd ps,j < k/\mg c=some (.ref C)/\Mk K C f/\FnOk P w K mg base CX0 j f fd ps (spI K C F)/\zBU K fd ps []/\zBU K fd ps [.none]/\KB K fd ps "strength"
theorem zL2.mono {K:W.Frag}(h:zL2 P w K mg base j x F o)(e:j<=k):zL2 P w K mg base k x F o:=by
 match o,h with
 | none,⟨f,fd,ps,h1,h2⟩=>exact⟨f,fd,ps,h1.mono e,h2⟩
 | some (.mth c m),⟨C,f,fd,ps,h1,h2,h3,h4,h5⟩=>exact⟨C,f,fd,ps,h1,h2,h3,h4.mono e,h5⟩
 | some (.mk c),⟨i,C,f,fd,ps,h1,h2⟩=>exact⟨i,C,f,fd,ps,xQ h1 e,h2⟩
def DmOk (P:Program)(w:World)(K:W.Frag)(mg:Str->Option Value)(base:Heap)(k:Nat)(Y:Dm):Prop :=
 ∀ x F,(x,F)∈Y->zL2 P w K mg base k x F (spec.lookup x)
theorem zCb {K:W.Frag}(h1:zCS K c A)(h2:zCS K c B):A=B:=by
 rw[zCS] at h1 h2;rw[h1] at h2;cases h2
 rfl
theorem zLU (h:zFl gs=true)(n:zEG.contains m=false):gs.lookup m=none:=by
 cases e:gs.lookup m with
 | none=>rfl
 | some v =>
  unfold zFl zNX at h;rw[x9,all_eq_true] at h;have:=h.2 m (mem_map.mpr ⟨_,PySem.mem_of_lookup e,rfl⟩);rw[n] at this;cases this
section
variable {X:Cx}{k:Nat}{Y:Dm}
noncomputable def fldM (ob:List (Str×Str×Option Bool))(f:Str)(g:Mst->Option MR):Mst->Option MR:=λs=>(g s).bind λx=>match x.1 with
 | .obj c ns l=>if (c,f,none)∈ob then ((ns.zip l).lookup f).map λw=>(w,x.2) else none
 | _=>none
theorem zH2 {K:W.Frag}{gs:List (Str×V)}:∀ {ns:List Str} {vs:List V} {l:List W},(ns.map λn=>gs.lookup n)=vs.map some->DenWL K H U l vs->(ns.zip l).lookup f=some d->∃ v,gs.lookup f=some v/\DenW K H U d v
 | [],_,_,_,_,e=>by simp at e
 | n::ns,vs,[],_,_,e=>by simp at e
 | n::ns,vs,x::l,h,t,e=>by
  rw[DenWL] at t;obtain⟨v,us,rfl,t1,t2⟩:=t;simp only[map_cons,List.cons.injEq] at h;rw[List.zip_cons_cons,lookup_cons] at e;by_cases q:(f==n)=true
  .rw [q] at e;cases e;exact⟨v,by rw[eq_of_beq q];exact h.1,t1⟩
  .rw [Bool.not_eq_true] at q;rw[q] at e;exact zH2 h.2 t2 e
theorem zSq (ha:GM X e g)(hb:attributeBase e fl X.env (eval e X.env)=eval e X.env)(ho:∀ c,(c,fl,none)∈ob->∀ C,zCS X.K c C->Cls X.K C/\zCf X.K C fl):GM X (.Attribute e fl pos) (fldM ob fl g):=by
 refine(zOB ha hb).imp λB H Q zz103=>?_
 obtain⟨U,G,O,r,ms,q,cc⟩:=zz103;obtain⟨x,ex,q⟩:=bind_some q;split at q
 .rename_i c ns l hx;by_cases m:(c,fl,none)∈ob
  .rw [if_pos m] at q;obtain⟨w,e1,e2⟩:=yq.mp q;cases e2;refine⟨U,G,O,x,ms,ex,λv H1 M k1 c1 dv=>?_⟩;have dv':=dv;rw[hx,DenW] at dv';obtain⟨a,vs,rfl,⟨C,dx,gs,h1,h2,h3,h4⟩,h5⟩:=dv';obtain⟨u,q1,q2⟩:=zH2 h4 h5 e1;obtain⟨o1,o2⟩:=ho c m C h3;exact⟨a,C,dx,gs,u,rfl,zBT _ _ h1,o1,o2,q1,cc u H1 M k1 c1 q2⟩
  .rw [if_neg m] at q;cases q
 .cases q
theorem zKN (hbase:attributeBase o m env (eval o env)=eval o env)(hfew:methodCallForm (args.length+([]:List Keyword).length) (backTo pos (starEach args env)) (backToKw pos (keywordEach [] env))=true)(hline:(apos.endLine==pos.line)=true) :
  eval (.Call (.Attribute o m apos) args [] pos) env=(do
   let ov<-eval o env
   standAt apos.atName
   let (f,first)<-holding [ov] (getMethod ov m (do return (<- importBound o env).getD true))
   callWith pos f first (backTo pos (starEach args env)) (backToKw pos (keywordEach [] env))):=by
 rw[arm_eval_Call,hbase];unfold methodCall calleeOf methodCallPos;simp only[hfew,hline,if_true,Bool.not_true,Bool.or_true,pure_bind]
noncomputable def mthM (Y:Dm)(ix:List (Str×Nat))(m:Str)(f:Mst->Option MR)(g:Mst->Option MA):Mst->Option MR:=λs=>(f s).bind λx=>match x.1 with
 | .obj c ns l=>(ix.lookup c).bind λn=>(Y[n]?).bind λe=>if spec.lookup e.1=some (.mth c m)/\zEG.contains m=false then (g ⟨s.G,x.2⟩).bind λws=>e.2 (.obj c ns l::ws.1) ws.2 else none
 | _=>none
theorem zSn {m:Str}{o:Expr}{apos pos:Pos}{e:Expr}{es:List Expr}{ix:List (Str×Nat)}{f:Mst->Option MR}{g:Mst->Option MA}(he:GM X o f)(ha:GAM X (e::es) g)(d:DmOk X.prog X.w X.K X.mg X.base k Y)(hr:Room k X.A)
  (hst:starEach (e::es) X.env=(false,eval e X.env)::starEach es X.env) (hpl:(backTo pos (starEach es X.env)).any (·.1)=false) (hbase:attributeBase o m X.env (eval o X.env)=eval o X.env) (hfew:methodCallForm ((e::es).length+([]:List Keyword).length) (backTo pos (starEach (e::es) X.env)) (backToKw pos (keywordEach [] X.env))=true) (hline:(apos.endLine==pos.line)=true):GM X (.Call (.Attribute o m apos) (e::es) [] pos) (mthM Y ix m f g):=by
 intro pins s B H Q I ⟨U,G,O,r,ms,q,cc⟩;obtain⟨x,ex,q⟩:=bind_some q;split at q
 .rename_i c ns l hx;obtain⟨n,en,q⟩:=bind_some q;obtain⟨ent,ee,q⟩:=bind_some q;by_cases hk:spec.lookup ent.1=some (.mth c m)/\zEG.contains m=false
  .rw [if_pos hk] at q;obtain⟨ws,ew,q⟩:=bind_some q;have D:=d ent.1 ent.2 (mem_of_getElem? ee);rw[hk.1] at D;obtain⟨C,fa,fd,ps,d1,d2,d3,d4,d5⟩:=D;refine zPF (C:=C) he d2 d3 d4 hr d5 .nil zJs ha hst hpl (zKN hbase hfew hline) pins s B H Q I ?_;refine⟨U,G,O,x,ms,ex,λv H1 M k1 c1 dv=>?_⟩;have dv':=dv;rw[hx,DenW] at dv';obtain⟨a,vs,rfl,⟨C',dx,gs,h1,h2,h3,h4⟩,h5⟩:=dv';obtain rfl:=zCb d1 h3;refine⟨a,dx,gs,rfl,zBT _ _ h1,zLU h2 hk.2,U++M,G,x.2,ws,ms.next k1 c1,ew,λus H2 M2 k2 c2 d2'=>?_⟩;show spM X.K ent.2 (.ref a::(us++[])) H2 Q E0;rw[append_nil];rw[hx] at dv;exact⟨U++M++M2,ws.2,.obj c ns l::ws.1,r,c2,.cons (dv.mono k2 M2) d2',q,λv H3 M3 k3 c3 d3=>cc v H3 (M++(M2++M3)) (k1.trans (k2.trans k3)) (by rw[<- q0,<- q0];exact c3) (by rw[<- q0,<- q0];exact d3)⟩
  .rw [if_neg hk] at q;cases q
 .cases q
theorem zN0 {pins:List (Addr×Obj)}{B:St}{H:Hp}{s:Shared}{Q:VK}{us fus:List Value}{kw:List (Str×Value)}{vs:List V}{C f:Addr}{fd:FuncData}{ps:List Str}{sp:Sp}(M:Mk X.K C f)(F:FnOk X.prog X.w X.K X.mg X.base CX0 k f fd ps sp)(hr:Room (k+1) X.A)
  (hb:∀ (s':Shared) (x:Addr),X.K.In s'.heap->(Value.ref x::fus).length=ps.length->BindsTo s' fd ⟨.ref x::us,kw⟩ (ps.zip (.ref x::fus))) (I:Inv X pins B H s) (r:Vals vs fus)
  (h:∀ x dx,H x=none->H dx=none->dx≠x->sp (.ref x::vs) (upd (upd H dx (.own x)) x (.ins C dx [])) (λv H2=>v=.non/\Q (.ref x) H2) E0) :
  wpAny (model X.prog X.w) X.A (call (.ref C) us kw) (EP X pins B Q) X.xe s:=by
 have hq:=h (s.heap.objs.size+1) s.heap.objs.size (I.hok.fresh (Nat.le_succ _)) (I.hok.fresh (le_refl _)) (ne_of_lt (Nat.lt_succ_self _));have I2:=Inv.made (C:=C) I;have r2:Vals (V.ref (s.heap.objs.size+1)::vs) (Value.ref (s.heap.objs.size+1)::fus):=.cons rfl r;have hl:(Value.ref (s.heap.objs.size+1)::fus).length=ps.length:=by
  have e:=r2.length;rw[F.len _ _ _ _ hq] at e;exact e.symm
 refine wpAny_call (zMf (f:=f) I.kIn M.makes M.init (beq_iff_eq.mp M.fn) (codeAny_mono (F.run _ X.stack _ _ ⟨Value.ref (s.heap.objs.size+1)::us,kw⟩ (Value.ref (s.heap.objs.size+1)::fus) _ _ E0 (hr.make C us kw)
  (I2.env0.make C us kw) (hb _ _ I2.kIn hl) r2 hq) λr s' hq'=>?_))
 cases r with
 | error e=>exact hq'.elim
 | ok fl =>
  cases fl with
  | ret u =>
   obtain⟨v,H',I3,rv,ev,q3⟩:=I2.after hq';subst ev;exact⟨rv,⟨V.ref (s.heap.objs.size+1),H',I3,rfl,q3⟩⟩
  | next=>exact False.elim hq'
  | brk=>exact False.elim hq'
  | cont=>exact False.elim hq'
def zPb (d:Bool):List W:=if d=true then [.dat .non] else []
noncomputable def mkM (Y:Dm)(n:Nat)(c:Str)(d:Bool)(g:Mst->Option MA):Mst->Option MR:=λs=>(Y[n]?).bind λe=>if spec.lookup e.1=some (.mk c) then (g s).bind λws=>e.2 (ws.1++zPb d) ws.2 else none
noncomputable def mkkM (Y:Dm)(n:Nat)(c:Str)(g:Mst->Option MA)(h:Mst->Option MR):Mst->Option MR:=λs=>(Y[n]?).bind λe=>if spec.lookup e.1=some (.mk c) then (g s).bind λws=>(h ⟨s.G,ws.2⟩).bind λw=>e.2 (ws.1++[w.1]) w.2 else none
theorem zUP {n:Nat}{c:Str}{b:Bool}{p pos:Pos}{e:Expr}{es:List Expr}{g:Mst->Option MA}(ha:GAM X (e::es) g)(d:DmOk X.prog X.w X.K X.mg X.base k Y)(hr:Room k X.A)(hg:Gl X c)(hdb:(c==("__debug__":Str))=false)
  (hst:starEach (e::es) X.env=(false,eval e X.env)::starEach es X.env) (hpl:(backTo pos (starEach es X.env)).any (·.1)=false):GM X (.Call (.Name c p) (e::es) [] pos) (mkM Y n c b g):=by
 intro pins s B H Q I ⟨U,G,O,r,ms,q,cc⟩;obtain⟨ent,ee,q⟩:=bind_some q;by_cases hk:spec.lookup ent.1=some (.mk c)
 .rw [if_pos hk] at q;obtain⟨ws,ew,q⟩:=bind_some q;have D:=d ent.1 ent.2 (mem_of_getElem? ee);rw[hk] at D;obtain⟨j,C,fa,fd,ps,jk,d1,d2,d3,d4,d5,d6⟩:=D;refine wpAny_Call_Name_kw (zDY I hg d1 ?_ hdb);refine W.callWith_K (h₀:=X.base) I.ok.mod.kin d2.kp (thn (ha pos pins s B H (λvs H1=>∃ M,Kp H H1/\zAL X.K H1 (U++M) ws.2/\DenWL X.K H1 (U++M) ws.1 vs) I ⟨U,G,O,ws,ms,ew,λvs H1 M k1 c1 dv=>⟨M,k1,c1,dv⟩⟩) λus s1 ⟨vs,H1,I1,rv,M,k1,c1,dv⟩=>⟨I1.kIn,?_⟩) hst hpl;have rn:Vals (if b=true then [V.non] else []) (if b=true then [Value.none] else []):=by
   cases b with
   | true=>exact .cons rfl .nil
   | false=>exact .nil
  refine zN0 (fus:=us++if b=true then [Value.none] else []) d2 d3 (hr.mono jk) (λs' x hK hl=>?_) I1 (rv.append rn) λx dx n1 n2 n3=>?_
  .cases b with
   | true=>exact d5 s' (.ref x::us) hK hl
   | false =>
    have hl':((Value.ref x::us)++[]).length=ps.length:=hl;exact d4 s' (.ref x::us) hK hl'
  .refine ⟨x,dx,H1,_,U++M,ws.2,ws.1++zPb b,r,rfl,n1,n2,n3,rfl,c1,dv.append ?_,q,λH' M' k2 c2 d2'=>⟨rfl,cc (.ref x) H' (M++M') (k1.trans k2) (by rw[<- q0];exact c2) (by rw[<- q0];exact d2')⟩⟩;cases b with
   | true=>exact .cons (by rw[DenW,Den]) .nil
   | false=>exact .nil
 .rw [if_neg hk] at q;cases q
theorem zSo {n:Nat}{c:Str}{p pos kpos:Pos}{e e2:Expr}{es:List Expr}{g:Mst->Option MA}{h:Mst->Option MR}(ha:GAM X (e::es) g)(hk2:GM X e2 h)(d:DmOk X.prog X.w X.K X.mg X.base k Y)(hr:Room k X.A)(hg:Gl X c)(hdb:(c==("__debug__":Str))=false)
  (hst:starEach (e::es) X.env=(false,eval e X.env)::starEach es X.env) (hpl:((backTo pos (starEach (e::es) X.env)).any (·.1)||(backToKw pos (keywordEach [⟨some "strength",e2,kpos⟩] X.env)).any (·.1.isNone))=false):GM X (.Call (.Name c p) (e::es) [⟨some "strength",e2,kpos⟩] pos) (mkkM Y n c g h):=by
 intro pins s B H Q I ⟨U,G,O,r,ms,q,cc⟩;obtain⟨ent,ee,q⟩:=bind_some q;by_cases hk:spec.lookup ent.1=some (.mk c)
 .rw [if_pos hk] at q;obtain⟨ws,ew,q⟩:=bind_some q;obtain⟨w,eh,q⟩:=bind_some q;have D:=d ent.1 ent.2 (mem_of_getElem? ee);rw[hk] at D;obtain⟨j,C,fa,fd,ps,jk,d1,d2,d3,d4,d5,d6⟩:=D;refine wpAny_Call_Name_kw (zDY I hg d1 ?_ hdb);refine W.callWith_KW (h₀:=X.base) I.ok.mod.kin d2.kp rfl (thn (ha pos pins s B H (λvs H1=>∃ M,Kp H H1/\zAL X.K H1 (U++M) ws.2/\DenWL X.K H1 (U++M) ws.1 vs) I ⟨U,G,O,ws,ms,ew,λvs H1 M k1 c1 dv=>⟨M,k1,c1,dv⟩⟩) λus s1 zz104=>?_) hpl hst;obtain⟨vs,H1,I1,rv,M,k1,c1,dv⟩:=zz104;refine thn (zPE (nm:=some "strength") (kpos:=kpos) hk2 zRd pos pins s1 B H1 (λzs H2=>∃ z M2,zs=[z]/\Kp H1 H2/\zAL X.K H2 (U++M++M2) w.2/\DenW X.K H2 (U++M++M2) w.1 z) I1 ⟨U++M,G,ws.2,w,ms.next k1 c1,eh,λz H2 M2 k2 c2 d2'=>⟨z,M2,rfl,k2,c2,d2'⟩⟩) λwz s2 ⟨zs,H2,I2,rz,z,M2,ez,k2,c2,dz⟩=>⟨I2.kIn,?_⟩
  subst ez;obtain⟨uz,rfl,rzz⟩:=zGm rz;show wpAny _ _ (call (.ref C) us [("strength",uz)]) _ _ s2;refine zN0 (fus:=us++[uz]) d2 d3 (hr.mono jk) (λs' x hK hl=>d6 s' (.ref x::us) uz hK hl) I2 (rv.append (.cons rzz .nil)) λx dx n1 n2 n3=>?_
  exact⟨x,dx,H2,_,U++M++M2,w.2,ws.1++[w.1],r,rfl,n1,n2,n3,rfl,c2,(dv.mono k2 M2).append (.cons dz .nil),q,λH' M' k3 c3 d3'=>⟨rfl,cc (.ref x) H' (M++(M2++M')) (k1.trans (k2.trans k3)) (by rw[<- q0,<- q0];exact c3) (by rw[<- q0,<- q0];exact d3')⟩⟩
 .rw [if_neg hk] at q;cases q
noncomputable def clrM (t:Mst->Option MR):Mst->Option OutM:=λs=>(t s).bind λx=>match x.1 with
 | .loc n=>if n < x.2.length then some (.nx ⟨s.G,x.2.set n []⟩) else none
 | _=>none
theorem zP9 (hb:GM X b t)(hbase:attributeBase b "clear" X.env (eval b X.env)=eval b X.env)(hline:(apos.endLine==cpos.line)=true) :
  GSM X (.Expr (.Call (.Attribute b "clear" apos) [] [] cpos) pos) (clrM t):=λH0 α0=>(zFS (zRl PySem.F.plainAttrs_list PySem.F.slot_list_clear PySem.F.type_list_clear zMc hb hbase hline) rfl).imp λE B H zz105=>by
 obtain⟨M,s,o,ms,k,e,p⟩:=zz105;obtain⟨x,ex,e⟩:=bind_some e;split at e
 .rename_i n en;by_cases hn:n < x.2.length
  .rw [if_pos hn] at e;cases e;refine⟨α0++M,s.G,s.O,x,ms,ex,λv H1 M1 k1 c1 d1=>?_⟩;rw[en,DenW] at d1;obtain⟨a,ha,rfl⟩:=d1;have ms1:=ms.next k1 c1;obtain⟨a',vs0,q1,q2,_⟩:=c1.at_ n _ (getElem?_eq_getElem hn);rw[ha] at q1;cases q1;refine⟨.inl ⟨rfl,_,SqL.of q2⟩,a,vs0,rfl,rfl,q2,?_⟩;have kp:Kp H1 (upd H1 a (.lst [])):=by show Same _ _;rw[zKv q2];exact Same.refl _
   have c3:=c1.change (ws:=[]) hn ha q2 .nil;have m:=ms1.next (M:=[]) kp (by rw[append_nil];exact c3);rw[append_nil,q0] at m;exact p (M++M1) B _ m (k.trans (k1.trans kp))
  .rw [if_neg hn] at e;cases e
 .cases e
end
end DL
end
section
namespace DL
open PySem Spec PyProof.Rows L2
set_option genSizeOf false in
set_option genInjectivity false in
inductive ME where
 | pur (e:E) | var (i:Nat) | call (n:Nat) (f:Str) (es:ME) | lst (es:ME) | ix (a b:ME) | cmp (op:CmpOp) (a b:ME) 
 | comp (n:Nat) (ms:List Nat) (x:Str) (src el:ME) | rng (a:ME) | rng2 (a b:E) | it (a:ME) | not (a:ME) | nil | cons (e es:ME) | fld (a:ME) (f:Str) | mth (ix:List (Str×Nat)) (m:Str) (a es:ME) | mk (n:Nat) (c:Str) (d:Bool) (es:ME) | mkk (n:Nat) (c:Str) (es a:ME)
set_option genSizeOf false in
set_option genInjectivity false in
inductive MT where
 | nil | cons (a b:MT) | set (i:Nat) (e:ME) | setC (i:Nat) (e:ME) | app (t e:ME) | ife (c:ME) (a b:MT) | for1 (i:Nat) (src:ME) (b:MT) 
 | ret (e:ME) | never | clr (t:ME)
noncomputable def fnM (Y:Dm)(n:Nat)(x:Str)(g:Mst->Option MA):Mst->Option MR:=λs=>match Y[n]? with
 | some (y,F)=>if y=x then zI1 F g s else none
 | none=>none
mutual
def evM (J:Gm)(Y:Dm):ME->Mst->Option MR
 | .pur e=>zMm (evE J e)
 | .var i=>varM i
 | .call n f es=>fnM Y n f (evMs J Y es)
 | .lst es=>lstM (evMs J Y es)
 | .ix a b=>twoM (evM J Y a) (evM J Y b) ixW
 | .cmp op a b=>twoM (evM J Y a) (evM J Y b) (opM (cmpD op))
 | .fld a f=>fldM J.ob f (evM J Y a)
 | .mth ix m a es=>mthM Y ix m (evM J Y a) (evMs J Y es)
 | .mk n c d es=>mkM Y n c d (evMs J Y es)
 | .mkk n c es a=>mkkM Y n c (evMs J Y es) (evM J Y a)
 | .comp n ms _ src el=>zHQ ms 1 (evSrc J Y src) (tgM n) (evM J Y el)
 | _=>λ_=>none
def evMs (J:Gm)(Y:Dm):ME->Mst->Option MA
 | .nil=>nilM
 | .cons e es=>zNa (evM J Y e) (evMs J Y es)
 | _=>λ_=>none
def evSrc (J:Gm)(Y:Dm):ME->Mst->Option (Src×Mem)
 | .rng a=>zMK (evM J Y a)
 | .rng2 a b=>zML (evE J a) (evE J b)
 | .it a=>srcM (evM J Y a)
 | _=>λ_=>none
end
mutual
def evT (J:Gm)(Y:Dm):ME->Mst->Option MB
 | .pur e=>zMn (asB (evE J e))
 | .cmp op a b=>asBM (evM J Y (.cmp op a b))
 | .call n f es=>asBM (evM J Y (.call n f es))
 | .not a=>notB (evT J Y a)
 | _=>λ_=>none
def zGV (J:Gm)(Y:Dm):ME->Mst->Option MB
 | .cons e es=>(match es with
  | .nil=>evT J Y e
  | es=>andB (evT J Y e) (zGV J Y es))
 | _=>λ_=>none
def zLF (J:Gm)(Y:Dm):ME->Mst->Option MB
 | .cons e es=>(match es with
  | .nil=>evT J Y e
  | es=>orB (evT J Y e) (zLF J Y es))
 | _=>λ_=>none
end
mutual
def evS' (J:Gm)(Y:Dm):MT->Mst->Option OutM
 | .set i e=>setM i (evM J Y e)
 | .setC i e=>setM i (evM J Y e)
 | .app t e=>appM (evM J Y t) (evM J Y e)
 | .ife c a b=>ifM (evT J Y c) (evSs' J Y a) (evSs' J Y b)
 | .for1 i src b=>λs=>(evSrc J Y src s).bind λr=>zFi (tgM i) (evSs' J Y b) r.1 0 ⟨s.G,r.2⟩
 | .ret e=>retM (evM J Y e)
 | .clr t=>clrM (evM J Y t)
 | .nil=>λ_=>none
 | .cons _ _=>λ_=>none
 | .never=>λ_=>none
def evSs' (J:Gm)(Y:Dm):MT->Mst->Option OutM
 | .nil=>λs=>some (.nx s)
 | .cons a b=>seqM (evS' J Y a) (evSs' J Y b)
 | _=>λ_=>none
end
def zLk:Expr->Bool
 | .Name _ _=>true
 | .Subscript _ _ _=>true
 | .Attribute _ _ _=>true
 | _=>false
def onKw (k:Keyword)(f:Str->Expr->Bool):Bool:=match k with
 | ⟨some s,v,_⟩=>f s v
 | _=>false
theorem zPW (h:onKw k f=true):∃ s v p,k=⟨some s,v,p⟩/\f s v=true:=by
 obtain⟨o,v,p⟩:=k;cases o with
 | none=>exact(zzf h)
 | some s=>exact⟨s,v,p,rfl,h⟩
mutual
noncomputable def cM:ME->Scope->List Str->List Str->Expr->Bool
 | .pur e,sc,N,bs=>λx=>cE e sc N bs x
 | .var i,sc,N,bs=>λx=>cE (.var i) sc N bs x
 | .call _ f es,sc,N,bs=>λe=>zAv e λz1 z2 z3 _=>zAX z1 λy _=>zGF z2 λx xs=>on0 z3<|(decide (f=y)&&glB sc f&&okN f&&(spec.lookup f).isNone&&cMs es sc N bs (x::xs))
 | .lst es,sc,N,bs=>λe=>zJ2 e λl _=>cMs es sc N bs l
 | .ix a b,sc,N,bs=>λe=>zCC e λl r _=>zG2 r&&cM a sc N bs l&&cM b sc N bs r
 | .cmp op a b,sc,N,bs=>λ_=>false
 | .fld a f,sc,N,bs=>λe=>zAz e λl m _=>decide (m=f)&&zLk l&&cM a sc N bs l
 | .mth _ m a es,sc,N,bs=>λe=>zAv e λz1 z2 z3 cpos=>zAz z1 λl m' apos=>zGF z2 λx xs=>on0 z3<|(decide (m'=m)&&zLk l&&(apos.endLine==cpos.line)&&decide ((x::xs).length < 30)&&cM a sc N bs l&&cMs es sc N bs (x::xs))
 | .mk _ c _ es,sc,N,bs=>λe=>zAv e λz1 z2 z3 _=>zAX z1 λy _=>zGF z2 λx xs=>on0 z3<|(decide (c=y)&&glB sc c&&okN c&&cMs es sc N bs (x::xs))
 | .mkk _ c es a,sc,N,bs=>λe=>zAv e λz1 z2 z3 _=>zAX z1 λy _=>zGF z2 λx xs=>on1 z3 λkw=>onKw kw λs v=>decide (c=y)&&glB sc c&&okN c&&decide (s = "strength")&&cMs es sc N bs (x::xs)&&cM a sc N bs v
 | .comp n ms x src el,sc,N,bs=>λe=>zDU e λv z1 scope _=>on1 z1 λz2=>zPX z2 λz3 t z4 a=>zAX z3 λy _=>on0 z4<|(decide (x=y)&&decide (a=0)&&decide (n=N.length)&&cscB sc scope&&zMe scope N ms&&decide ((mask noN ms N++[x]).Nodup)&&locB (relS sc scope) x&&ownB scope x&&cSrc src sc N bs t&&cM el (relS sc scope) (mask noN ms N++[x]) bs v)
 | _,_,_,_=>λ_=>false
noncomputable def cMs:ME->Scope->List Str->List Str->List Expr->Bool
 | .nil,sc,N,bs=>λl=>l.isEmpty
 | .cons e es,sc,N,bs=>λl=>match l with
  | x::xs=>zAb x&&cM e sc N bs x&&cMs es sc N bs xs
  | []=>false
 | _,_,_,_=>λ_=>false
noncomputable def cSrc:ME->Scope->List Str->List Str->Expr->Bool
 | .rng a,sc,N,bs=>λx=>zAv x λz1 z2 z3 _=>zAX z1 λy _=>on1 z2 λl=>on0 z3<|(decide (y = "range")&&bltB sc bs "range"&&zAb l&&cM a sc N bs l)
 | .rng2 a b,sc,N,bs=>λx=>zAv x λz1 z2 z3 _=>zAX z1 λy _=>on2 z2 λl r=>on0 z3<|(decide (y = "range")&&bltB sc bs "range"&&zAb l&&zAb r&&cE a sc N bs l&&cE b sc N bs r)
 | .it a,sc,N,bs=>λx=>zKB x&&cM a sc N bs x
 | _,_,_,_=>λ_=>false
end
mutual
noncomputable def cT:ME->Scope->List Str->List Str->Expr->Bool
 | .pur e,sc,N,bs=>λx=>cE e sc N bs x
 | .cmp op a b,sc,N,bs=>λx=>cM (.cmp op a b) sc N bs x
 | .call n f es,sc,N,bs=>λx=>cM (.call n f es) sc N bs x
 | .not a,sc,N,bs=>λe=>zC9 e λz1 l _=>onEq z1 .Not<|(cT a sc N bs l)
 | _,_,_,_=>λ_=>false
noncomputable def cTs:ME->Scope->List Str->List Str->List Expr->Bool
 | .cons e es,sc,N,bs=>λl=>match es with
  | .nil=>(match l with
   | [x]=>cT e sc N bs x
   | _=>false)
  | es=>(match l with
   | x::y::xs=>cT e sc N bs x&&cTs es sc N bs (y::xs)
   | _=>false)
 | _,_,_,_=>λ_=>false
end
def zPu:ME->Bool
 | .comp _ _ _ _ _=>true
 | _=>false
mutual
noncomputable def cS' (sc:Scope)(N bs:List Str):MT->Stmt->Bool
 | .set i e=>λs=>zCi s λz1 v _=>on1 z1 λz2=>zAX z2 λy _=>varB sc N i y&&zEp v&&cM e sc N bs v
 | .setC i e=>λs=>zCi s λz1 v _=>on1 z1 λz2=>zAX z2 λy _=>zPu e&&varB sc N i y&&cM e sc N bs v
 | .app t e=>λs=>zEA s λz1 _=>zAv z1 λz2 z3 z4 cpos=>zAz z2 λb m apos=>on1 z3 λv=>on0 z4<|(decide (m = "append")&&zLk b&&(apos.endLine==cpos.line)&&zAb v&&cM t sc N bs b&&cM e sc N bs v)
 | .ife c a b=>λs=>onIf s λt l r _=>cT c sc N bs t&&cSs' sc N bs a l&&cSs' sc N bs b r
 | .for1 i it b=>λs=>zPY s λz1 t l z2 _=>zAX z1 λy _=>on0 z2<|(varB sc N i y&&cSrc it sc N bs t&&cSs' sc N bs b l)
 | .ret e=>λs=>zDy s λz1 _=>zGD z1 λv=>cM e sc N bs v
 | .clr t=>λs=>zEA s λz1 _=>zAv z1 λz2 z3 z4 cpos=>zAz z2 λb m apos=>on0 z3<|on0 z4<|(decide (m = "clear")&&zLk b&&(apos.endLine==cpos.line)&&cM t sc N bs b)
 | .never=>λ_=>true
 | .nil=>λ_=>false
 | .cons _ _=>λ_=>false
noncomputable def cSs' (sc:Scope)(N bs:List Str):MT->List Stmt->Bool
 | .nil=>λl=>l.isEmpty
 | .cons a b=>λl=>match l with
  | s::r=>cS' sc N bs a s&&cSs' sc N bs b r
  | []=>false
 | _=>λ_=>false
end
end DL
end
section
namespace DL
open PySem Spec PyProof.Rows L2
structure XOkM (X:Cx)(k:Nat)(J:Gm)(Y:Dm)(bs:List Str):Prop where
 x:XOk X k J bs
 d:DmOk X.prog X.w X.K X.mg X.base k Y
theorem XOkM.comp (o:XOkM X k J Y bs)(nd:N.Nodup):XOkM (zAV X N scope s H fp) k J Y bs:=⟨o.x.comp nd,o.d⟩
section
variable {X:Cx}{k:Nat}{J:Gm}{Y:Dm}{bs:List Str}
theorem zKn (h:∀ s,f s=none):GM X e f:=λpins s B H Q I zz106=>by
 obtain⟨U,G,O,r,ms,q,c⟩:=zz106;rw[h] at q;cases q
theorem zUR (o:XOkM X k J Y bs)(hg:Gl X f)(hd:(f==("__debug__":Str))=false)(ha:GAM X (x::xs) g)(hst:∀ e∈x::xs,zAb e=true)(hsp:spec.lookup f=none):GM X (.Call (.Name f p) (x::xs) [] pos) (fnM Y n f g):=by
 cases q:Y[n]? with
 | none=>exact zKn λs=>by unfold fnM;rw[q]
 | some yF =>
  obtain⟨y,F⟩:=yF;by_cases e:y=f
  .subst e;have ef:fnM Y n y g=zI1 F g:=by
    funext s;unfold fnM;rw[q];exact if_pos rfl
   rw[ef];have D:=o.d y F (mem_of_getElem? q);rw[hsp] at D;obtain⟨a,fd,ps,h1,h2,h3,h4⟩:=D;exact zQF h1 o.x.room hg h2 h3 h4 ha hd (zAC (hst x q8)) (zBN λe z=>hst e (qJ _ z))
  .exact zKn λs=>by
    unfold fnM;rw[q];exact if_neg e
theorem zD4 {c}(h:zLk b=true):attributeBase b m env c=c:=by
 cases b<;>first | rfl | cases h
theorem zDO :∀ {es:List Expr},cMs a sc N bs es=true->∀ e∈es,zAb e=true:=by
 induction a with
 | nil =>
  intro es h;cases es with
  | nil=>intro e z;exact absurd z (by simp)
  | cons x xs=>exact zzf h
 | cons a b _ ih =>
  intro es h;cases es with
  | nil=>intro e z;exact absurd z (by simp)
  | cons x xs =>
   simp only[cMs,x9] at h;intro e z;rcases mem_cons.mp z with rfl | z
   .exact h.1.1
   .exact ih h.2 e z
 | _=>intro es h;exact zzf h
theorem zTE (h:∀ e∈es,zAb e=true)(hl:es.length < 30)(pos:Pos):methodCallForm (es.length+([]:List Keyword).length) (backTo pos (starEach es X.env)) (backToKw pos (keywordEach [] X.env))=true:=by
 unfold methodCallForm;have q:=zBN (X:=X) h pos;rw[x9,x9];refine⟨⟨?_,rfl⟩,decide_eq_true (by show es.length+0+0 < 30;omega)⟩;rw[List.any_eq_false] at q;rw[all_eq_true];intro x hx;have:=q x hx;simpa using this
structure zUh (X:Cx)(J:Gm)(Y:Dm)(bs:List Str)(a:ME):Prop where
 e:∀ e,cM a X.env.scope X.N bs e=true->GM X e (evM J Y a)
 es:∀ es,cMs a X.env.scope X.N bs es=true->GAM X es (evMs J Y a)
 s:∀ it,cSrc a X.env.scope X.N bs it=true->(∀ tg,GIM X tg it (evSrc J Y a))/\∀ x,foldedSetIterable it X.env x=pure x
 t:∀ e,cT a X.env.scope X.N bs e=true->GTM X e (evT J Y a)
 ts:∀ l,cTs a X.env.scope X.N bs l=true->∀ pos,GWM X (.BoolOp .And l pos) (zGV J Y a)/\GWM X (.BoolOp .Or l pos) (zLF J Y a)
theorem fls {p:Prop}(h:b=true)(n:b=false):p:=by rw[n] at h;cases h
theorem zCO (o:XOkM X k J Y bs)(a:ME):zUh X J Y bs a:=by
 induction a generalizing X with
 | pur e =>
  refine⟨λx h=>zQE (((zCo o.x e).e _ h).1),λ_ h=>fls h rfl,λ_ h=>fls h rfl,λx h=>zMy (((zCo o.x e).e _ h).2),λ_ h=>fls h rfl⟩
 | var i =>
  refine⟨λx h=>?_,λ_ h=>fls h rfl,λ_ h=>fls h rfl,λ_ h=>fls h rfl,λ_ h=>fls h rfl⟩;replace h:cE (.var i) X.env.scope X.N bs x=true:=h;obtain⟨_,_,rfl,hq1⟩:=zAF h;replace h:=hq1;simp only[x9,qj] at h;obtain⟨⟨h2,h3⟩,h4⟩:=h;obtain⟨n1,n2⟩:=zB3 h4;exact zSm h2 (zFE h3) n1 n2
 | call n f es ih =>
  have key:∀ e,cM (.call n f es) X.env.scope X.N bs e=true->GM X e (evM J Y (.call n f es))/\GTM X e (asBM (evM J Y (.call n f es))):=λe h=>by
   obtain⟨z1,z2,z3,_,rfl,hq1⟩:=zAQ h;obtain⟨_,_,rfl,hq2⟩:=zAF hq1;obtain⟨_,_,rfl,hq3⟩:=zDA hq2;obtain⟨rfl,hq4⟩:=zAm hq3;replace h:=hq4;simp only[x9,qj,Option.isNone_iff_eq_none] at h;obtain⟨⟨⟨⟨rfl,h2⟩,h3⟩,h5⟩,h4⟩:=h;have k:=λp pos=>zUR (n:=n) (p:=p) (pos:=pos) o (zDk h2) (zB3 h3).1 ((ih o).es _ h4) (zDO h4) h5
   exact⟨k _ _,zP3 (k _ _) λ_=>rfl⟩
  exact⟨λe h=>(key e h).1,λ_ h=>fls h rfl,λ_ h=>fls h rfl,λe h=>(key e h).2,λ_ h=>fls h rfl⟩
 | lst es ih =>
  refine⟨λx h=>?_,λ_ h=>fls h rfl,λ_ h=>fls h rfl,λ_ h=>fls h rfl,λ_ h=>fls h rfl⟩;obtain⟨_,_,rfl,hq1⟩:=zGE h;replace h:=hq1;exact zSp ((ih o).es _ h)
 | ix a b iha ihb =>
  refine⟨λx h=>?_,λ_ h=>fls h rfl,λ_ h=>fls h rfl,λ_ h=>fls h rfl,λ_ h=>fls h rfl⟩;obtain⟨_,_,_,rfl,hq1⟩:=zBw h;replace h:=hq1;simp only[x9] at h;obtain⟨⟨h0,h1⟩,h2⟩:=h;exact zUQ ((iha o).e _ h1) ((ihb o).e _ h2) (zEn h0)
 | cmp op a b iha ihb =>
  exact⟨λ_ h=>fls h rfl,λ_ h=>fls h rfl,λ_ h=>fls h rfl,λ_ h=>fls h rfl,λ_ h=>fls h rfl⟩
 | fld a f iha =>
  refine⟨λx h=>?_,λ_ h=>fls h rfl,λ_ h=>fls h rfl,λ_ h=>fls h rfl,λ_ h=>fls h rfl⟩;obtain⟨_,_,_,rfl,hq1⟩:=zAl h;replace h:=hq1;simp only[x9,qj] at h;obtain⟨⟨rfl,h2⟩,h3⟩:=h;exact zSq ((iha o).e _ h3) (zD4 h2) λc m C q=>o.x.g.ob _ m C q
 | mth ix m a es iha ihs =>
  refine⟨λx h=>?_,λ_ h=>fls h rfl,λ_ h=>fls h rfl,λ_ h=>fls h rfl,λ_ h=>fls h rfl⟩;obtain⟨z1,z2,z3,_,rfl,hq1⟩:=zAQ h;obtain⟨_,_,_,rfl,hq2⟩:=zAl hq1;obtain⟨_,_,rfl,hq3⟩:=zDA hq2;obtain⟨rfl,hq4⟩:=zAm hq3;replace h:=hq4;simp only[x9,qj] at h;obtain⟨⟨⟨⟨⟨rfl,h2⟩,h3⟩,h4⟩,h5⟩,h6⟩:=h;have st:=zDO h6;exact zSn ((iha o).e _ h5) ((ihs o).es _ h6) o.d o.x.room (zAC (st _ q8)) (zBN (λe z=>st e (qJ _ z)) _) (zD4 h2) (zTE st h4 _) h3
 | mk n c d es ihs =>
  refine⟨λx h=>?_,λ_ h=>fls h rfl,λ_ h=>fls h rfl,λ_ h=>fls h rfl,λ_ h=>fls h rfl⟩;obtain⟨z1,z2,z3,_,rfl,hq1⟩:=zAQ h;obtain⟨_,_,rfl,hq2⟩:=zAF hq1;obtain⟨_,_,rfl,hq3⟩:=zDA hq2;obtain⟨rfl,hq4⟩:=zAm hq3;replace h:=hq4;simp only[x9,qj] at h;obtain⟨⟨⟨rfl,h2⟩,h3⟩,h4⟩:=h;have st:=zDO h4;exact zUP ((ihs o).es _ h4) o.d o.x.room (zDk h2) (zB3 h3).1 (zAC (st _ q8)) (zBN (λe z=>st e (qJ _ z)) _)
 | mkk n c es a ihs iha =>
  refine⟨λx h=>?_,λ_ h=>fls h rfl,λ_ h=>fls h rfl,λ_ h=>fls h rfl,λ_ h=>fls h rfl⟩;obtain⟨z1,z2,z3,_,rfl,hq1⟩:=zAQ h;obtain⟨_,_,rfl,hq2⟩:=zAF hq1;obtain⟨_,_,rfl,hq3⟩:=zDA hq2;obtain⟨_,rfl,hq4⟩:=zA5 hq3;obtain⟨_,_,_,rfl,hq5⟩:=zPW hq4;replace h:=hq5;simp only[x9,qj] at h;obtain⟨⟨⟨⟨⟨rfl,h2⟩,h3⟩,rfl⟩,h4⟩,h5⟩:=h;have st:=zDO h4;exact zSo ((ihs o).es _ h4) ((iha o).e _ h5) o.d o.x.room (zDk h2) (zB3 h3).1 (zAC (st _ q8)) (by rw[zBN st];rfl)
 | comp n ms x src el ihs ihe =>
  refine⟨λe h=>?_,λ_ h=>fls h rfl,λ_ h=>fls h rfl,λ_ h=>fls h rfl,λ_ h=>fls h rfl⟩;obtain⟨v,z1,scope,pos,rfl,hq1⟩:=zCD h;obtain⟨z2,rfl,hq2⟩:=zA5 hq1;obtain⟨z3,t,z4,a,rfl,hq3⟩:=zFV hq2;obtain⟨y,py,rfl,hq4⟩:=zAF hq3;obtain⟨rfl,hq5⟩:=zAm hq4;replace h:=hq5;simp only[x9,qj] at h;obtain⟨⟨⟨⟨⟨⟨⟨⟨⟨rfl,rfl⟩,rfl⟩,h4⟩,h5⟩,h6⟩,h7⟩,h8⟩,h9⟩,h11⟩:=h;have cx:∀ s H fp,XOkM (zAV X (mask noN ms X.N++[x]) scope s H fp) k J Y bs:=λs H fp=>o.comp h6
  exact zKo o.x.calm (((ihs o).s _ h9).1 _) ((ihs o).s _ h9).2 (zHO h4) (zFa h5) (λs H fp=>zFh (X:=zAV X (mask noN ms X.N++[x]) scope s H fp) h6 (zK2 (k:=0) rfl) (zEI h7) (.inl h8)) λs H fp=>(ihe (cx s H fp)).e _ h11
 | rng a iha =>
  refine⟨λ_ h=>fls h rfl,λ_ h=>fls h rfl,λx h=>?_,λ_ h=>fls h rfl,λ_ h=>fls h rfl⟩;obtain⟨z1,z2,z3,_,rfl,hq1⟩:=zAQ h;obtain⟨_,_,rfl,hq2⟩:=zAF hq1;obtain⟨_,rfl,hq3⟩:=zA5 hq2;obtain⟨rfl,hq4⟩:=zAm hq3;replace h:=hq4;simp only[x9,qj] at h;obtain⟨⟨⟨rfl,h2⟩,h3⟩,h4⟩:=h;obtain⟨g1,g2⟩:=zA8 o.x h2;exact⟨λtg=>zIp g1 g2 ((iha o).e _ h4) (zAC h3),λ_=>rfl⟩
 | rng2 a b =>
  refine⟨λ_ h=>fls h rfl,λ_ h=>fls h rfl,λx h=>?_,λ_ h=>fls h rfl,λ_ h=>fls h rfl⟩;obtain⟨z1,z2,z3,_,rfl,hq1⟩:=zAQ h;obtain⟨_,_,rfl,hq2⟩:=zAF hq1;obtain⟨_,_,rfl,hq3⟩:=zDi hq2;obtain⟨rfl,hq4⟩:=zAm hq3;replace h:=hq4;simp only[x9,qj] at h;obtain⟨⟨⟨⟨⟨rfl,h2⟩,h3⟩,h3'⟩,h4⟩,h5⟩:=h;obtain⟨g1,g2⟩:=zA8 o.x h2;exact⟨λtg=>zIo g1 g2 ((zCo o.x a).e _ h4).1 ((zCo o.x b).e _ h5).1 (zAC h3) (zAC h3'),λ_=>rfl⟩
 | it a iha =>
  refine⟨λ_ h=>fls h rfl,λ_ h=>fls h rfl,λx h=>?_,λ_ h=>fls h rfl,λ_ h=>fls h rfl⟩;replace h:(zKB x&&cM a X.env.scope X.N bs x)=true:=h;simp only[x9] at h;exact⟨λtg=>zQG ((iha o).e _ h.2),zEo h.1⟩
 | not a iha =>
  refine⟨λ_ h=>fls h rfl,λ_ h=>fls h rfl,λ_ h=>fls h rfl,λe h=>?_,λ_ h=>fls h rfl⟩;obtain⟨z1,_,_,rfl,hq1⟩:=zCW h;obtain⟨rfl,hq2⟩:=zDV hq1;replace h:=hq2;exact zP4 ((iha o).t _ h)
 | nil =>
  refine⟨λ_ h=>fls h rfl,λes h=>?_,λ_ h=>fls h rfl,λ_ h=>fls h rfl,λ_ h=>fls h rfl⟩;cases es with
  | nil=>exact zQR
  | cons x xs=>exact(zzf h)
 | cons e es ihe ihs =>
  refine⟨λ_ h=>fls h rfl,λl h=>?_,λ_ h=>fls h rfl,λ_ h=>fls h rfl,λl h pos=>?_⟩
  .cases l with
   | nil=>exact(zzf h)
   | cons x xs =>
    replace h:(zAb x&&cM e X.env.scope X.N bs x&&cMs es X.env.scope X.N bs xs)=true:=h;simp only[x9] at h;exact zM9 ((ihe o).e _ h.1.2) ((ihs o).es _ h.2) (zAC h.1.1)
  .simp only [cTs] at h;split at h
   .split at h
    .exact ⟨zMx ((ihe o).t _ h),zP1 ((ihe o).t _ h)⟩
    .cases h
   .rename_i hn;split at h
    .rw [x9] at h;have q:=(ihs o).ts _ h.2 pos;have ea:zGV J Y (.cons e es)=andB (evT J Y e) (zGV J Y es):=by
      rw[zGV];exact hn
     have eo:zLF J Y (.cons e es)=orB (evT J Y e) (zLF J Y es):=by
      rw[zLF];exact hn
     rw[ea,eo];exact⟨zP2 ((ihe o).t _ h.1) q.1,zSa ((ihe o).t _ h.1) q.2⟩
    .cases h
end
section
variable {X:Cx}{k:Nat}{J:Gm}{Y:Dm}{bs:List Str}
theorem zJR (o:XOkM X k J Y bs)(fnl:∀ x,X.fn x=true)(a:MT):(∀ st,cS' X.env.scope X.N bs a st=true->GSM X st (evS' J Y a))/\∀ sts,cSs' X.env.scope X.N bs a sts=true->GSsM X sts (evSs' J Y a):=by
 have nd:=o.x.nd
 induction a with
 | nil =>
  refine⟨λ_ h=>fls h rfl,λl h=>?_⟩;cases l with
  | nil=>exact zMz
  | cons x xs=>exact(zzf h)
 | cons a b iha ihb =>
  refine⟨λ_ h=>fls h rfl,λl h=>?_⟩;cases l with
  | nil=>exact(zzf h)
  | cons x xs =>
   replace h:(cS' X.env.scope X.N bs a x&&cSs' X.env.scope X.N bs b xs)=true:=h;simp only[x9] at h;exact zKj (iha.1 _ h.1) (ihb.2 _ h.2)
 | set i e =>
  refine⟨λst h=>?_,λ_ h=>fls h rfl⟩;obtain⟨z1,_,_,rfl,hq1⟩:=zBk h;obtain⟨z2,rfl,hq2⟩:=zA5 hq1;obtain⟨_,_,rfl,hq3⟩:=zAF hq2;replace h:=hq3;simp only[x9] at h;obtain⟨⟨h2,h3⟩,h4⟩:=h;obtain⟨v1,v2,_⟩:=zBv h2;exact zKk nd v1 v2 ((zCO o e).e _ h4) (zC0 h3) (.inl (fnl _))
 | setC i e =>
  refine⟨λst h=>?_,λ_ h=>fls h rfl⟩;obtain⟨z1,_,_,rfl,hq1⟩:=zBk h;obtain⟨z2,rfl,hq2⟩:=zA5 hq1;obtain⟨_,_,rfl,hq3⟩:=zAF hq2;replace h:=hq3;simp only[x9] at h;obtain⟨⟨h2,h3⟩,h4⟩:=h;obtain⟨w1,w2,_⟩:=zBv h3;cases e with
  | comp n ms x src el =>
   obtain⟨v,z1,scope,pos,rfl,hr1⟩:=zCD h4;obtain⟨z2,rfl,hr2⟩:=zA5 hr1;obtain⟨z3,t,z4,a,rfl,hr3⟩:=zFV hr2;obtain⟨y,py,rfl,hr4⟩:=zAF hr3;obtain⟨rfl,hr5⟩:=zAm hr4;replace h4:=hr5
   .simp only [x9,qj] at h4;obtain⟨⟨⟨⟨⟨⟨⟨⟨⟨rfl,rfl⟩,rfl⟩,h4⟩,h5⟩,h6⟩,h7⟩,h8⟩,h9⟩,h11⟩:=h4;have cx:∀ s H fp,XOkM (zAV X (mask noN ms X.N++[x]) scope s H fp) k J Y bs:=λs H fp=>o.comp h6
    exact zM1 o.x.calm (((zCO o src).s _ h9).1 _) ((zCO o src).s _ h9).2 (zHO h4) (zFa h5) (λs H fp=>zFh (X:=zAV X (mask noN ms X.N++[x]) scope s H fp) h6 (zK2 (k:=0) rfl) (zEI h7) (.inl h8)) (λs H fp=>(zCO (cx s H fp) el).e _ h11) nd w1 w2 (.inl (fnl _))
  | _=>cases h2
 | app t e =>
  refine⟨λst h=>?_,λ_ h=>fls h rfl⟩;obtain⟨z1,_,rfl,hq1⟩:=zCh h;obtain⟨z2,z3,z4,_,rfl,hq2⟩:=zAQ hq1;obtain⟨_,_,_,rfl,hq3⟩:=zAl hq2;obtain⟨_,rfl,hq4⟩:=zA5 hq3;obtain⟨rfl,hq5⟩:=zAm hq4;replace h:=hq5;simp only[x9,qj] at h;obtain⟨⟨⟨⟨⟨rfl,h2⟩,h3⟩,h4⟩,h5⟩,h6⟩:=h;exact zQA ((zCO o t).e _ h5) ((zCO o e).e _ h6) (zAC h4) (zD4 h2) h3
 | ife c a b iha ihb =>
  refine⟨λst h=>?_,λ_ h=>fls h rfl⟩;obtain⟨_,_,_,_,rfl,hq1⟩:=zJ3 h;replace h:=hq1;simp only[x9] at h;obtain⟨⟨h1,h2⟩,h3⟩:=h;exact zSg ((zCO o c).t _ h1) (iha.2 _ h2) (ihb.2 _ h3)
 | for1 i it b ihb =>
  refine⟨λst h=>?_,λ_ h=>fls h rfl⟩;obtain⟨z1,_,_,z2,_,rfl,hq1⟩:=zHp h;obtain⟨_,_,rfl,hq2⟩:=zAF hq1;obtain⟨rfl,hq3⟩:=zAm hq2;replace h:=hq3;simp only[x9] at h;obtain⟨⟨h2,h3⟩,h4⟩:=h;obtain⟨v1,v2,_⟩:=zBv h2;obtain⟨s1,s2⟩:=(zCO o it).s _ h3;exact zP8 o.x.own o.x.calm (s1 _) (zFh nd v1 v2 (.inl (fnl _))) (ihb.2 _ h4) s2
 | ret e =>
  refine⟨λst h=>?_,λ_ h=>fls h rfl⟩;obtain⟨z1,_,rfl,hq1⟩:=zCy h;obtain⟨_,rfl,hq2⟩:=zEB hq1;replace h:=hq2;exact zP7 ((zCO o e).e _ h)
 | clr t =>
  refine⟨λst h=>?_,λ_ h=>fls h rfl⟩;obtain⟨z1,_,rfl,hq1⟩:=zCh h;obtain⟨z2,z3,z4,_,rfl,hq2⟩:=zAQ hq1;obtain⟨_,_,_,rfl,hq3⟩:=zAl hq2;obtain⟨rfl,hq4⟩:=zAm hq3;obtain⟨rfl,hq5⟩:=zAm hq4;replace h:=hq5;simp only[x9,qj] at h;obtain⟨⟨⟨rfl,h2⟩,h3⟩,h5⟩:=h;exact zP9 ((zCO o t).e _ h5) (zD4 h2) h3
 | never=>exact⟨λst h=>zKl,λ_ h=>fls h rfl⟩
end
section
variable {P:Program}{w:World}{K:W.Frag}{mg:Str->Option Value}{base:Heap}{k:Nat}{J:Gm}{Y:Dm}{bs:List Str}
theorem zHN {st:Stmt}(F:Fun K x qual st f fd)(sc:zAi N ps (zAA st))(ck:cSs' (zAA st) N bs b (zAK st)=true)(g:GOk P w K mg base k J bs)(d:DmOk P w K mg base k Y) :
  FnOk P w K mg base CX0 (k+1) f fd ps (spM K (zBL ps.length N.length (evSs' J Y b))) :=
 zQV F sc λcdv A outer s H E hr =>
  (zJR (X:=(cxOf CX0 P w K mg base N qual (zAA st) f cdv A outer s H E).nox) ⟨⟨g,hr,rfl,sc.nd,PassesOwn.never⟩,d⟩ (λ_=>rfl) b).2 _ ck
theorem DmOk.mono (d:DmOk P w K mg base k Y)(h:k<=j):DmOk P w K mg base j Y:=λx F m=>(d x F m).mono h
def Dm.add (Y:Dm)(x:Str)(F:MF):Dm:=Y++[(x,F)]
theorem DmOk.one (d:DmOk P w K mg base k Y)(h:k<=j)(e:zL2 P w K mg base j x F (spec.lookup x)):DmOk P w K mg base j (Y.add x F):=λy G z=>by
 rcases mem_append.mp z with z | z
 .exact (d y G z).mono h
 .have q:(y,G)=(x,F):=by simpa using z
  cases q;exact e
theorem DmOk.add {st:Stmt}(d:DmOk P w K mg base k Y)(g:GOk P w K mg base k J bs)(F:Fun K x x st f fd)(sc:zAi N ps (zAA st))(ck:cSs' (zAA st) N bs b (zAK st)=true)(m:mg x=some (.ref f))(bi:zBU K fd ps [])(hx:spec.lookup x=none:=by decide +kernel) :
  DmOk P w K mg base (k+1) (Y.add x (zBL ps.length N.length (evSs' J Y b))):=d.one (Nat.le_succ k) (by rw[hx];exact⟨f,fd,ps,zHN F sc ck g d,m,F.kp,bi⟩)
theorem DmOk.addM {st:Stmt}(d:DmOk P w K mg base k Y)(g:GOk P w K mg base k J bs)(F:Fun K nm qual st f fd)(sc:zAi N ps (zAA st))(ck:cSs' (zAA st) N bs b (zAK st)=true)(bi:zBU K fd ps [])(c1:zCS K c C)(c2:Cls K C)(c3:Meth K C m f)(hx:spec.lookup x=some (.mth c m)) :
  DmOk P w K mg base (k+1) (Y.add x (zBL ps.length N.length (evSs' J Y b))):=d.one (Nat.le_succ k) (by rw[hx];exact⟨C,f,fd,ps,c1,c2,c3,zHN F sc ck g d,bi⟩)
theorem GOk.mono (g:GOk P w K mg base k J bs)(h:k<=j):GOk P w K mg base j J bs :=
 ⟨λx F m=>let ⟨f,fd,ps,h1,h2⟩:=g.fn x F m;⟨f,fd,ps,h1.mono h,h2⟩,g.cs,g.bt,trivial,trivial,trivial,λj L F e=>(g.lm j L F e).mono h,g.ob⟩
end
theorem zRB (hx:H x=some (.ins C dx fs))(nd:zFl fs=false):zCr (fzH H) (fzH (upd H x o)):=λb u q n=>by
 by_cases e:b=x
 .subst e;rw[zGQ hx] at q;cases q;have:=n _ _ _ rfl;rw[nd] at this;cases this
 .unfold fzH at q ⊢;rw[zAP e];exact q
theorem zAL.updI {K:W.Frag}(c:zAL K H U O)(hx:H x=some (.ins C dx fs))(nd:zFl fs=false):zAL K (upd H x o) U O :=
 ⟨c.len,c.nd,λn ws q=>let ⟨a,vs,h1,h2,h3⟩:=c.at_ n ws q;⟨a,vs,h1,by rw[zAP (zT5 h2 hx (by intro z;cases z))];exact h2,by
  have:=h3.monoF (zRB (o:=o) hx nd) [];rwa [append_nil] at this⟩⟩
def zEh:List (Str×(Mst->Option MR))->Mst->Option (List W×Mem)
 | [],s=>some ([],s.O)
 | p::r,s=>(p.2 s).bind λw=>(zEh r ⟨s.G,w.2⟩).map λz=>(w.1::z.1,z.2)
def zG6 (c:Str)(n:Nat)(L:List (Str×(Mst->Option MR))):MF:=λws O=>if ws.length=n then (zEh L ⟨none::ws.map some,O⟩).map λz=>(.obj c (L.map (·.1)) z.1,z.2) else none
def iT (K:W.Frag)(C dx x:Addr)(H1:Hp)(α0:List Addr)(σ0:St)(G:List (Option W))(full:List Str)(L:List (Str×(Mst->Option MR))):TS:=λE B H =>
 ∃ M O fs vs acc z,B=σ0/\H x=some (.ins C dx fs)/\Kp H1 H/\zAL K H (α0++M) O/\fs.map (·.1)++L.map (·.1)=full/\((fs.map (·.1)).map λn=>fs.lookup n)=vs.map some/\DenWL K H (α0++M) acc vs/\zEh L ⟨G,O⟩=some z /\
  ∀ M' H' fs' vs',Kp H1 H'->zAL K H' (α0++M') z.2->H' x=some (.ins C dx fs')->fs'.map (·.1)=full->(full.map λn=>fs'.lookup n)=vs'.map some->DenWL K H' (α0++M') (acc++z.1) vs'->E.nx σ0 H'
def zO8 (full:List Str):Bool:=(List.range full.length).all λi=>!(zNX (full.take i))
inductive zEe (X:Cx) (y:Str):List Stmt->List (Str×(Mst->Option MR))->Prop where
 | nil:zEe X y [] []
 | cons {f:Str} {e:Expr} {g:Mst->Option MR} {p p2 pos:Pos} {rest:List Stmt} {L:List (Str×(Mst->Option MR))} (h:GM X e g) (hs:zEp e=true) (t:zEe X y rest L):zEe X y (.Assign [.Attribute (.Name y p) f p2] e pos::rest) ((f,g)::L)
theorem zFP {f:Str}{v:V}:∀ {fs:List (Str×V)},f∉fs.map (·.1)->putF f v fs=fs++[(f,v)]
 | [],_=>rfl
 | (g,u)::r,h=>by
  rw[map_cons,mem_cons,not_or] at h;unfold putF;rw[if_neg (λz=>h.1 z.symm),zFP h.2]
  rfl
theorem zMs {α0:List Addr}{σ0:St}(cl:Cls X.K C)(na:∀ n∈full,zCf X.K C n)(nd:full.Nodup)(hp:zO8 full=true)(hl:full.length<=100)(n1:H1 x=none)
  (hy:X.N[0]?=some y) (vy:Vis X.env.scope y) (oy:okN y=true) (Z2:σ0[0]?=some (some (.ref x))) (hlen:σ0.length=G.length) (hvar:∀ (i:Nat) w,G[i]?=some (some w)->∃ v,σ0[i]?=some (some v)/\DenW X.K H1 α0 w v) :
  ∀ {sts:List Stmt} {L:List (Str×(Mst->Option MR))},zEe X y sts L->PSs X sts (iT X.K C dx x H1 α0 σ0 G full L):=by
 intro sts L h
 induction h with
 | nil =>
  refine zGx.imp λE B H zz107=>?_
  obtain⟨M,O,fs,vs,acc,z,e1,hx,k1,c1,hf,hv,da,ei,fin⟩:=zz107;cases ei;subst e1;simp only[map_nil,append_nil] at hf;exact fin M H fs vs k1 c1 hx hf (by rw[<- hf];exact hv) (by rw[append_nil];exact da)
 | @cons f e g p p2 pos rest L hg hs t ih =>
  refine(zFQ (zRb (zDg hy vy (zB3 oy).1 (zB3 oy).2) hg (zC0 hs)) ih).imp λE B H zz108=>?_
  obtain⟨M,O,fs,vs,acc,z,e1,hx,k1,c1,hf,hv,da,ei,fin⟩:=zz108;subst e1;obtain⟨w,ew,ei⟩:=bind_some ei;obtain⟨z',ez,e3⟩:=yq.mp ei;cases e3;have ms:MS X.K H (α0++M) O B G:=⟨c1,hlen,λi w q=>let ⟨v,q1,q2⟩:=hvar i w q;⟨v,q1,q2.mono k1 M⟩⟩;refine⟨α0++M,G,O,w,ms,ew,λv H2 M2 k2 c2 dv=>⟨.ref x,Z2,x,C,dx,fs,rfl,?_⟩⟩;have hx2:H2 x=some (.ins C dx fs):=zBT _ _ (k2 _ _ (zGQ hx));have mf:f∈full:=by rw[<- hf];simp
  have lf:fs.length < full.length:=by
   have:=congrArg List.length hf;simp only[qQ,qy,xY] at this;omega
  have tk:full.take fs.length=fs.map (·.1):=by
   rw[<- hf,List.take_append_of_le_length (by rw[qy];exact le_refl _),take_of_length_le (by rw[qy];exact le_refl _)]
  have ndn:zFl fs=false:=by
   unfold zO8 at hp;have:=all_eq_true.mp hp fs.length (mem_range.mpr lf);rw[tk] at this;simpa [zFl] using this
  have nf:f∉fs.map (·.1):=by
   rw[<- hf] at nd;have:=(List.nodup_append.mp nd).2.2;exact λm=>this f m f (by simp) rfl
  refine⟨hx2,cl,na f mf,by omega,?_⟩;have up:zCr (fzH H2) (fzH (upd H2 x (.ins C dx (putF f v fs)))):=zRB hx2 ndn;have tr:∀ {ws:List W} {us:List V},DenWL X.K H2 (α0++M++M2) ws us->DenWL X.K (upd H2 x (.ins C dx (putF f v fs))) (α0++(M++M2)) ws us:=λ{ws us} q=>by
   have:=q.monoF up [];rw[append_nil,q0] at this;exact this
  refine⟨M++M2,w.2,putF f v fs,vs++[v],acc++[w.1],z',rfl,zAh,λb o q=>?_,?_,?_,?_,?_,ez,λM' H' fs' vs' a1 a2 a3 a4 a5 a6=>fin M' H' fs' vs' a1 a2 a3 a4 a5 (by simpa using a6)⟩
  .have q2:=k2 _ _ (k1 _ _ q);have ne:b≠x:=λz=>by
    rw[z] at q;have:=zBT _ _ q;rw[n1] at this;cases this
   unfold fzH at q2 ⊢;rw[zAP ne];exact q2
  .rw [<- q0];exact c2.updI hx2 ndn
  .rw [zFP nf,xJ,q0];exact hf
  .have e1:(putF f v fs).map (·.1)=fs.map (·.1)++[f]:=by rw[zFP nf,xJ];rfl
   rw[e1,xJ,xJ,<- hv];congr 1
   .refine map_congr_left λn hn=>?_
    rw[zCF,if_neg (λz=>nf (by rw[<- z];exact hn))]
   .show [(putF f v fs).lookup f]=[some v];rw[zCF,if_pos rfl]
  .exact tr ((da.mono k2 M2).append (.cons dv .nil))
def zI2 (sc:Scope)(N bs:List Str)(y:Str):List (Str×ME)->List Stmt->Bool
 | [],[]=>true
 | (f,m)::L,s::r=>(zCi s λz1 v _=>on1 z1 λz2=>zAz z2 λo f' _=>zAX o λy' _=>decide (y'=y)&&decide (f'=f)&&zEp v&&cM m sc N bs v)&&zI2 sc N bs y L r
 | _,_=>false
section
variable {P:Program}{w:World}{K:W.Frag}{mg:Str->Option Value}{base:Heap}{k:Nat}{J:Gm}{Y:Dm}{bs:List Str}
theorem zIJ (o:XOkM X k J Y bs):∀ {L:List (Str×ME)} {sts:List Stmt},zI2 X.env.scope X.N bs y L sts=true->zEe X y sts (L.map λp=>(p.1,evM J Y p.2))
 | [],[],_=>.nil
 | [],_::_,h=>(zzf h)
 | _::_,[],h=>(zzf h)
 | (f,m)::L,s::r,h=>by
  unfold zI2 at h;rw[x9] at h;obtain⟨h,h2⟩:=h;obtain⟨z1,_,_,rfl,hq1⟩:=zBk h;obtain⟨z2,rfl,hq2⟩:=zA5 hq1;obtain⟨_,_,_,rfl,hq3⟩:=zAl hq2;obtain⟨_,_,rfl,hq4⟩:=zAF hq3;simp only[x9,qj] at hq4;obtain⟨⟨⟨rfl,rfl⟩,h3⟩,h4⟩:=hq4;exact .cons ((zCO o m).e _ h4) h3 (zIJ o h2)
theorem zKc {f C:Addr}{qual c y:Str}{st:Stmt}{dV kV doc pm cdv ct oc:Value}{an od:Option Addr}{osl:Array (Option Value)}{ys:List Str}{L:List (Str×ME)}(lk:K.lookup f=some ⟨oc,od,.func (W.fnOf "__init__" qual (zAs st) (zAK st) (zAA st) dV kV doc pm an cdv ct),osl⟩)
  (hcd:W.codeIn K cdv qual=true) (S:zAi (y::ys) (y::ys) (zAA st)) (vy:visB (zAA st) y=true) (oy:okN y=true) (ck:zI2 (zAA st) (y::ys) bs y L (zAK st)=true) (g:GOk P w K mg base k J bs) (d:DmOk P w K mg base k Y)
  (cn:zCS K c C) (cl:Cls K C) (na:∀ n∈L.map (·.1),zCf K C n) (nd:(L.map (·.1)).Nodup) (hp:zO8 (L.map (·.1))=true) (hdn:zNX (L.map (·.1))=true) (hl:(L.map (·.1)).length<=100) :
  FnOk P w K mg base CX0 (k+1) f (W.fnOf "__init__" qual (zAs st) (zAK st) (zAA st) dV kV doc pm an cdv ct) (y::ys) (spI K C (zG6 c ys.length (L.map λp=>(p.1,evM J Y p.2)))):=by
 have names:(L.map λp=>(p.1,evM J Y p.2)).map (·.1)=L.map (·.1):=by rw[map_map];rfl
 refine zTD lk hcd S (λvs H Q E h=>?_) λA outer s H vs Q E hr h=>?_
 .obtain ⟨x,dx,H1,us,U,O,ws,r,rfl,_,_,_,_,_,dw,hF,_⟩:=h;unfold zG6 at hF;by_cases q:ws.length=ys.length
  .rw [xY,<- dw.length,q];rfl
  .rw [if_neg q] at hF;cases hF
 obtain⟨x,dx,H1,us,U,O,ws,r,rfl,n1,n2,n3,rfl,cc,dw,hF,fin⟩:=h;unfold zG6 at hF;have q:ws.length=ys.length:=Classical.byContradiction λz=>by rw[if_neg z] at hF;cases hF
 rw[if_pos q] at hF;obtain⟨z,ez,e3⟩:=yq.mp hF;subst e3;have o:XOkM (cxOf CX0 P w K mg base (y::ys) qual (zAA st) f cdv A outer s (upd (upd H1 dx (.own x)) x (.ins C dx [])) E).nox k J Y bs:=⟨⟨g,hr,rfl,S.nd,PassesOwn.never⟩,d⟩;have st0:L2.zB0 (y::ys) (.ref x::us)=some (.ref x)::us.map some:=by
  unfold L2.zB0;have:(y::ys).length - (V.ref x::us).length=0:=by rw[xY,xY,<- dw.length,q];omega
  rw[this];simp
 refine⟨_,PSs.nox (zMs (σ0:=L2.zB0 (y::ys) (.ref x::us)) (G:=none::ws.map some) (α0:=U) (H1:=H1) (x:=x) (dx:=dx) cl na nd hp hl n1 rfl (zFE vy) oy (by rw[st0];rfl) (by rw[st0,xY,xY,qy,qy,dw.length]) (λi w e=>?_) (zIJ o ck)),?_⟩
 .cases i with
  | zero=>cases e
  | succ i =>
   have e':(ws.map some)[i]?=some (some w):=e;rw[List.getElem?_map] at e';obtain⟨w',e1,e2⟩:=yq.mp e';cases e2;obtain⟨v,q1,q2⟩:=dw.get e1;refine⟨v,?_,q2⟩;rw[st0];show (us.map some)[i]?=_;rw[List.getElem?_map,q1];rfl
 .have sm:Same H1 (upd (upd H1 dx (.own x)) x (.ins C dx [])):=(zAp n2 _).trans (zAp (by rw[zAP (Ne.symm n3)];exact n1) _);refine⟨[],O,[],[],[],z,rfl,zAh,zBX sm,by rw[append_nil];exact cc.same sm,names,rfl,.nil,ez,λM' H' fs' vs' a1 a2 a3 a4 a5 a6=>fin H' M' a1 a2 ?_⟩;rw[DenW];refine⟨x,vs',rfl,⟨C,dx,fs',zGQ a3,?_,cn,by rw[names];exact a5⟩,a6⟩;unfold zFl;rw[a4];exact hdn
theorem zGX (hd:fd.defaults=.ref T)(lk:K.lookup T=some ⟨oc,od,.seq #[.none] n,sl⟩)(KX:K.In s.heap)
  (O7:bindArgs fd args=seqItems? fd.defaults>>=kk) (Y6:kk (some #[.none])=pure binds):BindsTo s fd args binds:=.of_defaults hd (KX _ _ lk) rfl O7 Y6
theorem DmOk.addC (d:DmOk P w K mg base k Y)(hj:j < k)(hx:spec.lookup x=some (.mk c))(m:mg c=some (.ref C))(M:Mk K C f)(FO:FnOk P w K mg base CX0 j f fd ps (spI K C F))(b1:zBU K fd ps [])(b2:zBU K fd ps [.none])(b3:KB K fd ps "strength") :
  DmOk P w K mg base k (Y.add x F):=d.one (le_refl k) (by rw[hx];exact⟨j,C,f,fd,ps,hj,m,M,FO,b1,b2,b3⟩)
end
theorem zEY :∀ (names:List (Str×NameKind)) (acc:List (Str×Addr)),(∀ p∈names,p.2=.free->∃ c,cs.lookup p.1=some c) ->
  ∃ cl,clos names cs acc=some cl/\cl.map (·.1)=((names.filter λp=>p.2==.free).map (·.1)).reverse++acc.map (·.1)/\∀ p∈cl,p∈acc\/cs.lookup p.1=some p.2
 | [],acc,_=>⟨acc,rfl,by simp,λp hp=>.inl hp⟩
 | (x,k)::names,acc,h=>by
  unfold clos;by_cases e:(k==NameKind.free)=true
  .obtain ⟨c,ec⟩:=h (x,k) q8 (eq_of_beq e);obtain⟨cl,h1,h2,h3⟩:=zEY names ((x,c)::acc) λp hp=>h p (qJ _ hp)
   dsimp only at ec;rw[if_pos e,ec];refine⟨cl,h1,?_,λp hp=>?_⟩
   .rw [h2,filter_cons];simp[e]
   .rcases h3 p hp with z | z
    .rcases mem_cons.mp z with z | z
     .right;rw[z];exact ec
     .exact .inl z
    .exact .inr z
  .obtain ⟨cl,h1,h2,h3⟩:=zEY names acc λp hp=>h p (qJ _ hp)
   rw[if_neg e];refine⟨cl,h1,?_,h3⟩;rw[h2,filter_cons];simp[e]
theorem zF0 {cs:List (Str×Addr)}(inj:∀ x y c,cs.lookup x=some c->cs.lookup y=some c->x=y):∀ {cl:List (Str×Addr)},(∀ p∈cl,cs.lookup p.1=some p.2)->(cl.map (·.1)).Nodup->(cl.map (·.2)).Nodup
 | [],_,_=>by simp
 | p::cl,h,nd=>by
  rw[map_cons,nodup_cons] at nd ⊢;refine⟨λz=>?_,zF0 inj (λq hq=>h q (qJ _ hq)) nd.2⟩;obtain⟨q,hq,e⟩:=mem_map.mp z;have h1:=h p q8;have h2:=h q (qJ _ hq);rw[e] at h2;exact nd.1 (mem_map.mpr ⟨q,hq,inj _ _ _ h2 h1⟩)
noncomputable def capD:List Nat->List (Option W)->Option (List D)
 | [],_=>some []
 | i::ix,G=>(match G[i]? with
  | some (some (.dat d))=>some d
  | some (some (.obj c ns l))=>some (dobj c ns l)
  | _=>none).bind λd=>(capD ix G).bind λds=>some (d::ds)
noncomputable def lamE (Fg:MF)(j:Nat)(L:LamI)(ix:List Nat)(ge:Mst->Option MR):Mst->Option MR:=λs=>(ge s).bind λw=>(capD ix s.G).bind λds=>if noLs ds=true then Fg [w.1,.dat (.lam j L ds)] w.2 else none
noncomputable def lamM (Fg:MF)(j:Nat)(L:LamI)(ix:List Nat)(np nN:Nat)(gp:Mst->Option OutM)(ge:Mst->Option MR):MF:=zBL np nN λs=>(gp s).bind λo=>match o with
 | .nx s'=>retM (lamE Fg j L ix ge) s'
 | _=>none
theorem zOe {K:W.Frag}(ms:MS K H U O B G):∀ {ix:List Nat} {ds:List D},capD ix G=some ds->∃ us,DenL K (fzH H) ds us/\us.length=ix.length/\∀ (k i:Nat),ix[k]?=some i->∃ v,us[k]?=some v/\B[i]?=some (some v)
 | [],ds,e=>by
  cases e;exact⟨[],.nil,rfl,λk i z=>by simp at z⟩
 | i::ix,ds,e=>by
  unfold capD at e;obtain⟨d,e0,e⟩:=bind_some e;obtain⟨ds',e1,e⟩:=bind_some e;cases e;obtain⟨us,h1,h2,h3⟩:=zOe ms e1;have hv:∃ v,B[i]?=some (some v)/\Den K (fzH H) d v:=by
   split at e0
   .rename_i d' q;cases e0;obtain⟨v,g1,g2⟩:=ms.get i _ q;rw[DenW] at g2;exact⟨v,g1,g2⟩
   .rename_i c ns l q;cases e0;obtain⟨v,g1,g2⟩:=ms.get i _ q;exact⟨v,g1,zID g2⟩
   .cases e0
  obtain⟨v,g1,g2⟩:=hv;refine⟨v::us,.cons g2 h1,by rw[xY,xY,h2],λk i' z=>?_⟩;cases k with
  | zero =>
   have:i=i':=by simpa using z
   subst this;exact⟨v,rfl,g1⟩
  | succ k=>exact h3 k i' (by simpa using z)
theorem zGC {U M:Type}{R:U->M->Prop}:∀ {l:List U} {m:List M},l.length=m.length->(∀ (k:Nat) a b,l[k]?=some a->m[k]?=some b->R a b)->Paired R l m
 | [],[],_,_=>.nil
 | [],_::_,e,_=>by simp at e
 | _::_,[],e,_=>by simp at e
 | a::l,b::m,e,h=>.cons (h 0 a b (by simp) (by simp)) (zGC (by simpa using e) λk a' b' q1 q2=>h (k+1) a' b' (by simpa using q1) (by simpa using q2))
noncomputable def zFT (H:Hp)(h:Heap)(S:List Addr):Hp:=λb=>if b∈S then (h.get? b).map (λo=>.frz o anyU) else H b
section
variable {X:Cx}{pins:List (Addr×Obj)}{B:St}{H:Hp}{s:Shared}
theorem zNT (I:Inv X pins B H s){S:List Addr}(hS:∀ b∈S,∃ y,X.env.cells.lookup y=some b)(hfn:∀ y,X.fn y=true) :
  Same H (zFT H s.heap S)/\(∀ b∈S,∃ o v,zFT H s.heap S b=some (.frz o anyU)/\s.heap.get? b=some o/\o.data=.cell v)/\(∀ b,b∉S->zFT H s.heap S b=H b)/\(∀ b∈S,X.s0.heap.objs.size<=b)/\Env0 X.prog X.w X.K X.mg X.base X.A X.stack s (zFT H s.heap S):=by
 have out:∀ {b:Addr},b∉S->zFT H s.heap S b=H b:=λz=>if_neg z
 have free:∀ {b:Addr},b∈S->H b=none:=λ{b} z=>let ⟨y,e⟩:=hS b z;I.freeC y b e
 have nS:∀ {b:Addr} {u:HO},H b=some u->b∉S:=λ{b u} e z=>by rw[free z] at e;cases e
 have sm:Same H (zFT H s.heap S):=λb u e=>by rw[out (nS e)];exact e
 have inn:∀ b∈S,∃ o v,zFT H s.heap S b=some (.frz o anyU)/\s.heap.get? b=some o/\o.data=.cell v:=λb z=>by
  obtain⟨y,e⟩:=hS b z;obtain⟨v,o,ho,hd⟩:=I.cell y b e;refine⟨o,v,?_,ho,hd⟩;unfold zFT;rw[if_pos z,ho]
  rfl
 have big:∀ b∈S,X.s0.heap.objs.size<=b:=λb z=>let ⟨y,e⟩:=hS b z;I.ok.cab y b (hfn y) e
 have e0:=I.env0;refine⟨sm,inn,λb z=>out z,big,⟨e0.frames,e0.mod,λb o e=>⟨(e0.bs b o e).1,?_⟩,e0.bsz,e0.funs,λb z=>?_,λb u e=>?_,e0.bare,e0.tree,λx hx c P e=>sm _ _ (e0.tabs x hx c P e)⟩⟩
 .have nb:b∉S:=λz=>absurd (lt_size e) (Nat.not_lt.mpr (le_trans I.ok.bsz (big b z)))
  rw[out nb];exact(e0.bs b o e).2
 .have nb:b∉S:=λz2=>by
   rcases mem_cons.mp (I.stkSub b z) with q | q
   .obtain ⟨y,e⟩:=hS b z2;exact I.cne y b e q
   .obtain ⟨_,o,ho,_⟩:=I.ok.funs.mem q;exact absurd (lt_size ho) (Nat.not_lt.mpr (big b z2))
  rw[out nb];exact e0.frf b z
 .by_cases z:b∈S
  .obtain ⟨o,v,q1,q2,_⟩:=inn b z;rw[q1] at e;cases e;exact zEQ q2
  .rw [out z] at e;exact(I.hok b u e).stay (λ_ _ _ q=>q) (λ_ q=>sm _ _ q) (λ_ _ q=>sm _ _ q) λ_ _ _ q _=>sm _ _ q
end
theorem zOo {fs:List Addr}{L:Addr}{H H1 H2 H':Hp}{h h1 h':Heap}{S:List Addr}(u1:Un fs [] H H1 h h1)(big:∀ b∈S,h.objs.size<=b)(hL:h.objs.size<=L)(sm:Same H1 H2)(out:∀ b,b∉S->H2 b=H1 b)(u2:Un (L::fs) [] H2 H' h1 h'):Un fs [] H H' h h':=by
 have nS:∀ {b:Addr} {o:Obj},h.get? b=some o->b∉S:=λ{b o} e z=>absurd (lt_size e) (Nat.not_lt.mpr (big b z))
 have nL:∀ {b:Addr} {o:Obj},h.get? b=some o->b≠L:=λ{b o} e z=>absurd (lt_size e) (Nat.not_lt.mpr (by rw[z];exact hL))
 have no:∀ {b:Addr} {o:Obj},h.get? b=some o->H b=none->H2 b=none:=λ{b o} e n=>by rw[out b (nS e)];exact u1.free b o e n (by simp)
 refine⟨λb o e n hb hx=>u2.keep b o (u1.keep b o e n hb hx) (no e n) (λz=>(mem_cons.mp z).elim (nL e) hb) hx,λb o e n hb hx=>?_,λb o e n hx=>?_,λb o e hx=>?_,λb xs e=>u2.tups b xs (sm _ _ (u1.tups b xs e)),λb o u e=>u2.frzs b o u (sm _ _ (u1.frzs b o u e)),λb q e=>u2.tbls b q (sm _ _ (u1.tbls b q e))⟩
 .obtain ⟨sl,e1⟩:=u1.slot b o e n hb hx;obtain⟨sl2,e2⟩:=u2.slot b _ e1 (no e n) (qJ _ hb) hx;exact⟨sl2,e2⟩
 .obtain ⟨o1,e1⟩:=u1.there b o e hx;exact u2.free b o1 e1 (no e n) hx
 .obtain ⟨o1,e1⟩:=u1.there b o e hx;exact u2.there b o1 e1 hx
structure zFB (K:W.Frag)(x:Str)(st:Stmt)(f:Addr)(N:List Str)(pre:List Stmt)(e:Expr)(g:Str)(L:LamI)(ix:List Nat):Prop where
 body:∃ q1 lp cp rp,zAK st=pre++[.Return (some (.Call (.Name g q1) [e,.Lambda L.params L.body L.scope lp] [] cp)) rp]
 star:zAb e=true
 qual:L.qual=x ++ ".<locals>." ++ "<lambda>"
 lam:x∈zBx
 fnq:zHB K x=some f
 tab:∃ c P,tabQ K x=some (c,P)
 gl:glB (zAA st) g=true
 okg:okN g=true
 dflt:∀ env,defaultsOf L.params env=([],[])
 nd:(frN L).Nodup
 len:ix.length=(frN L).length
 cap:∀ (k:Nat) y,(frN L)[k]?=some y->∃ i,ix[k]?=some i/\N[i]?=some y/\(zAA st).names.lookup y=some .cell
 free:∀ p∈L.scope.names,p.2=.free->p.1∈frN L
theorem PS.nox {st:Stmt}(h:PS X.nox st t):PS X st t:=λpins s B H D I hw =>
 wpAny_mono (h pins s B H D (I.wish _) hw) (λ_ _ q=>q.unwish) λ_ _ z=>False.elim z
theorem zPr {K:W.Frag}{st:Stmt}(F:Fun K nm x st f fd)(sc:zAi N ps (zAA st))(LD:zFB K x st f N pre e g L ix)
  (hpre:(pre=[]/\gp=λs=>some (.nx s))\/∃ s1,pre=[s1]/\∀ cdv A outer s H E,Room k (A.deeper (envOfC x (zAA st) s.heap.objs.size f cdv))->GSM (cxOf CX0 P w K mg base N x (zAA st) f cdv A outer s H E).nox s1 gp)
  (he:∀ cdv A outer s H E,Room k (A.deeper (envOfC x (zAA st) s.heap.objs.size f cdv))->GM (cxOf CX0 P w K mg base N x (zAA st) f cdv A outer s H E).nox e ge)
  (gg:FnOk P w K mg base CX0 k fg fdg psg (spM K Fg)) (mgg:mg g=some (.ref fg)) (kg:W.keepIn K (.ref fg)=true) (bg:zBU K fdg psg []):FnOk P w K mg base CX0 (k+1) f fd ps (spM K (lamM Fg j L ix ps.length N.length gp ge)):=by
 obtain⟨oc,od,kV,doc,pm,an,cdv,ct,osl,rfl,lk,hcd⟩:=F.ex;have lenS:∀ vs H Q E,spM K (lamM Fg j L ix ps.length N.length gp ge) vs H Q E->vs.length=ps.length:=λvs H Q E h=>by
  obtain⟨U,O,ws,r,c,d,hF,n⟩:=h;unfold lamM zBL at hF;by_cases q:ws.length=ps.length/\ps.length<=N.length
  .rw [<- d.length];exact q.1
  .rw [if_neg q] at hF;cases hF
 refine⟨lenS,λA outer s H args us vs Q E hr e0 hb r hsp=>?_⟩;have hl:=lenS _ _ _ _ hsp;have KX:K.In s.heap:=e0.mod.kin.keeps λb o e=>(e0.bs b o e).1
 have lim:s.heap.NoLimit:=e0.mod.nolimit.keeps λb o e=>(e0.bs b o e).1
 have hkind:∀ y∈ps.zip us,(zAA st).names.lookup y.1=some .local\/((zAA st).names.lookup y.1=some .cell/\((cellsFrom (s.heap.objs.size+1) (zAA st).names []).lookup y.1).isSome=true):=λzz109 hy=>by
  obtain⟨n,v⟩:=zz109;rcases sc.par n (of_mem_zip hy).1 with q | q
  .exact .inl q
  .exact .inr ⟨q,W.cellsFrom_some _ _ _ (.inl q)⟩
 refine codeAny_call_function hr.depth (KX _ _ lk) rfl sc.co sc.gen rfl (W.codeRec_of KX hcd) (hb _ _ _ _ ?_);refine wpAny_newFunctionEnv_cells sc.kind hkind λenv he' s1 xx=>?_
 subst he';refine⟨lim.keeps xx.toInCall.keep,codeAny_func ?_⟩;have I:Inv (cxOf CX0 P w K mg base N x (zAA st) f cdv A outer s H E) [] (zB0 N vs) H s1:=zGO sc hr.hd (by have:=hr.dp;show A.depth+1+100 < _;omega) e0 hl r xx;have hr2:Room k (cxOf CX0 P w K mg base N x (zAA st) f cdv A outer s H E).A:=hr.deeper _;obtain⟨q1,lp,cp,rp,eb⟩:=LD.body;obtain⟨U,O,ws,rr,cc,dw,hF,fin⟩:=hsp;unfold lamM zBL at hF;have hq:ws.length=ps.length/\ps.length<=N.length:=Classical.byContradiction λz=>by rw[if_neg z] at hF;cases hF
 rw[if_pos hq] at hF;obtain⟨o,eo,hF⟩:=bind_some hF;obtain⟨o1,eo1,eo2⟩:=bind_some (show ((gp _).bind _)=some o from eo);have ms0:MS K H U O (zB0 N vs) (ws.map some++List.replicate (N.length - ps.length) none):=by
  have:=zHt (N:=N) cc dw (by rw[hq.1];exact hq.2);rwa [hq.1] at this
 obtain⟨c0,P0,etab⟩:=LD.tab;have ecode:cdv=.ref c0:=zJG etab LD.fnq lk;have key:∀ (sa:Mst) (s1:Shared) (B1:St) (H1:Hp) (M1:List Addr),Inv (cxOf CX0 P w K mg base N x (zAA st) f cdv A outer s H E) [] B1 H1 s1->MS K H1 (U++M1) sa.O B1 sa.G->Kp H H1->lamE Fg j L ix ge sa=some rr ->
   wpAny (model P w) (cxOf CX0 P w K mg base N x (zAA st) f cdv A outer s H E).A (eval (.Call (.Name g q1) [e,.Lambda L.params L.body L.scope lp] [] cp) (cxOf CX0 P w K mg base N x (zAA st) f cdv A outer s H E).env) (λu s'=>CE outer P w H s Q u s') (cxOf CX0 P w K mg base N x (zAA st) f cdv A outer s H E).xe s1:=by
  intro sa s1 B1 H1 M1 I ms kp1 hE;obtain⟨wv,ew,hE⟩:=bind_some hE;obtain⟨ds,ecap,hE⟩:=bind_some hE;have nls:noLs ds=true:=Classical.byContradiction λz=>by rw[if_neg z] at hE;cases hE
  rw[if_pos nls] at hE;obtain⟨cvs,dcap,lcap,gcap⟩:=zOe ms ecap;refine wpAny_Call_Name_kw (zDY I (zDk LD.gl) mgg ?_ (zB3 LD.okg).1);refine W.callWith_K (h₀:=base) I.ok.mod.kin kg ?_ (zAC LD.star) rfl;rw[zAC LD.star];show wpAny _ _ (spliced ((false,eval e _)::backTo cp (starEach [.Lambda L.params L.body L.scope lp] _))) _ _ s1;refine Calls.spliced_cons (thn (PE.nox (he cdv A outer s H E hr2) [] s1 B1 H1 (λy H2=>∃ M2,Kp H1 H2/\zAL K H2 (U++M1++M2) wv.2/\DenW K H2 (U++M1++M2) wv.1 y) I ⟨U++M1,sa.G,sa.O,wv,ms,ew,λv H2 M2 k2 c2 d2=>⟨M2,k2,c2,d2⟩⟩) λu0 s2 zz110=>?_);obtain⟨y,H2,I1,r1,M2,kp2,c2,dy⟩:=zz110;have kc:∀ {y:Str},y∈frN L->(zAA st).names.lookup y=some .cell:=λ{y} my=>by
   obtain⟨kk,hk,e⟩:=List.getElem_of_mem my;obtain⟨_,_,_,q⟩:=LD.cap kk y (by rw[getElem?_eq_getElem hk,e]);exact q
  obtain⟨cl,hcl,hcn,hcm⟩:=zEY (cs:=(cxOf CX0 P w K mg base N x (zAA st) f cdv A outer s H E).env.cells) L.scope.names [] λp hp hf=>I1.ok.has p.1 (.inl (kc (LD.free p hp hf)))
  have hcn':cl.map (·.1)=frN L:=by rw[hcn];unfold frN;simp
  have hcm':∀ p∈cl,(cxOf CX0 P w K mg base N x (zAA st) f cdv A outer s H E).env.cells.lookup p.1=some p.2:=λp hp=>(hcm p hp).elim (λz=>absurd z (by simp)) id
  have hcd2:(cl.map (·.2)).Nodup:=zF0 I1.ok.inj hcm' (by rw[hcn'];exact LD.nd);show wpAny _ _ (spliced ((false,eval (.Lambda L.params L.body L.scope lp) _)::backTo cp (starEach [] _))) _ _ s2;refine Calls.spliced_cons (zMp I1 (LD.dflt _) hcl ecode (e0.mod.codes x LD.lam c0 P0 etab) (I1.tabs x LD.lam c0 P0 etab) λf' c' ctv pm' oc' u1 H3 s3 sm nf hf hc' co I2=>?_);refine Calls.spliced_nil ⟨I2.kIn,?_⟩;have hS:∀ b∈cl.map (·.2),∃ y,(cxOf CX0 P w K mg base N x (zAA st) f cdv A outer s H E).env.cells.lookup y=some b:=λb z=>by
   obtain⟨p,hp,rfl⟩:=mem_map.mp z;exact⟨p.1,hcm' p hp⟩
  obtain⟨sm2,inn,out,big,e2⟩:=zNT I2 hS λ_=>rfl
  obtain⟨H4,eH4⟩:∃ H4:Hp,H4=zFT H3 s3.heap (cl.map (·.2)):=⟨_,rfl⟩;rw[<- eH4] at sm2 inn out e2;have sm3:Same H2 H4:=sm.trans sm2;have cells:zBa H4 cl cvs:=by
   have lc:cl.length=cvs.length:=by
    have:=congrArg List.length hcn';rw[qy] at this;rw[lcap,LD.len,this]
   refine zGC lc λkk p v' g1 g2=>?_
   have gy:(frN L)[kk]?=some p.1:=by rw[<- hcn',List.getElem?_map,g1];rfl
   obtain⟨i,ei,epi,eki⟩:=LD.cap kk p.1 gy;obtain⟨v2,gv,st2⟩:=gcap kk i ei;rw[g2] at gv;cases gv;obtain⟨mm,hn,hloc⟩:=I2.loc;obtain⟨uu,ru,lo⟩:=hloc i p.1 v' epi st2 (.inr (.inl eki));obtain⟨o,vv',k1,k2,k3⟩:=inn p.2 (mem_map.mpr ⟨p,mem_of_getElem? g1,rfl⟩);rcases lo with ⟨q,_⟩ | ⟨_,c2,e1,o2,ho2,hd2⟩
   .have q':(zAA st).names.lookup p.1=some .local:=q;rw[eki] at q';cases q'
   .rw [hcm' p (mem_of_getElem? g1)] at e1;cases e1;rw[k2] at ho2;cases ho2;exact⟨o,uu,k1,hd2,ru⟩
  have la:zDu H4 L f' cvs:=⟨cl,pm',c',ctv,oc',u1,by rw[LD.qual];exact sm2 _ _ hf,sm2 _ _ hc',by rw[LD.qual];exact co,hcn',hcd2,cells⟩;have dl:DenW K H4 (U++M1++M2) (.dat (.lam j L ds)) (.ref f'):=by
   rw[DenW];refine Den.fz (by rw[noL];exact nls) ?_;rw[Den];exact⟨f',cvs,rfl,la,dcap.mono (Same.trans kp2 (zBT.trans sm3))⟩
  have ru0:Vals [y,.ref f'] [u0,.ref f']:=.cons r1 (.cons rfl .nil);have dwl:DenWL K H4 (U++M1++M2) [wv.1,.dat (.lam j L ds)] [y,.ref f']:=.cons (dy.keep (zBX sm3)) (.cons dl .nil);have sp':spM K Fg [y,.ref f'] H4 Q E:=⟨U++M1++M2,wv.2,_,rr,c2.same sm3,dwl,hE,λv H' M k3 c3 d3=>fin v H' (M1++(M2++M)) (Same.trans kp1 (Same.trans kp2 (Same.trans (zBX sm3) k3))) (by rw[<- q0,<- q0];exact c3) (by rw[<- q0,<- q0];exact d3)⟩;have hl2:([u0,.ref f']:List Value).length=psg.length:=by rw[<- ru0.length];exact gg.len _ _ _ _ sp'
  have bt:=bg s3 [u0,.ref f'] I2.kIn (by simpa using hl2);refine wpAny_call (codeAny_mono (gg.run _ _ s3 H4 _ _ _ Q E hr2 e2 bt (by simpa using ru0) sp') λr' s' hq=>?_);cases r' with
  | error e=>exact hq.elim
  | ok fl =>
   cases fl with
   | ret u =>
    obtain⟨v,H',os,bare,un,hok',rv,q⟩:=hq;exact⟨v,H',os.trans I2.os,bare,zOo I2.base big (le_refl _) sm2 out un,hok',rv,q⟩
   | next=>exact False.elim hq
   | brk=>exact False.elim hq
   | cont=>exact False.elim hq
 have last:∀ (sa:Mst) (s1:Shared) (B1:St) (H1:Hp) (M1:List Addr),Inv (cxOf CX0 P w K mg base N x (zAA st) f cdv A outer s H E) [] B1 H1 s1->MS K H1 (U++M1) sa.O B1 sa.G->Kp H H1->retM (lamE Fg j L ix ge) sa=some o ->
   wpAny (model P w) (cxOf CX0 P w K mg base N x (zAA st) f cdv A outer s H E).A (execs [.Return (some (.Call (.Name g q1) [e,.Lambda L.params L.body L.scope lp] [] cp)) rp] (cxOf CX0 P w K mg base N x (zAA st) f cdv A outer s H E).env) (λfl s'=>∃ u,fl=.ret u/\CE outer P w H s Q u s') (cxOf CX0 P w K mg base N x (zAA st) f cdv A outer s H E).xe s1:=by
  intro sa s1 B1 H1 M1 I ms kp1 hE;obtain⟨r1,er,hE⟩:=bind_some hE;cases hE;cases hF;refine wpAny_execs_cons (wpAny_Return_some (thn (key sa s1 B1 H1 M1 I ms kp1 er) λu s' h=>?_));exact⟨u,rfl,h⟩
 have hex:wpAny (model P w) (cxOf CX0 P w K mg base N x (zAA st) f cdv A outer s H E).A (execs (zAK st) (cxOf CX0 P w K mg base N x (zAA st) f cdv A outer s H E).env) (λfl s'=>∃ u,fl=.ret u/\CE outer P w H s Q u s') (cxOf CX0 P w K mg base N x (zAA st) f cdv A outer s H E).xe s1:=by
  rw[eb];rcases hpre with ⟨rfl,rfl⟩ | ⟨st1,rfl,hs1⟩
  .cases eo1;exact last _ s1 _ H [] I (by rw[append_nil];exact ms0) (Kp.refl H) eo2
  .show wpAny _ _ (execs (st1::[_]) _) _ _ s1;have hb1:=PS.nox (hs1 cdv A outer s H E hr2 H U) [] s1 (zB0 N vs) H { nx:=λB1 H1=>∃ sa M1,MS K H1 (U++M1) sa.O B1 sa.G/\Kp H H1/\retM (lamE Fg j L ix ge) sa=some o,rt:=λ_ _=>False } I ⟨[],⟨_,O⟩,o1,by rw[append_nil];exact ms0,Kp.refl H,eo1,by
    cases o1 with
    | nx sa=>exact λM1 B1 H1 m k=>⟨sa,M1,m,k,eo2⟩
    | rt r1=>cases eo2
    | bk _=>cases eo2
    | ct _=>cases eo2⟩
   refine wpAny_execs_cons (thn hb1 λfl s2 q=>?_);cases fl with
   | next =>
    obtain⟨B1,H1,I1,sa,M1,m,k,e⟩:=q;exact last sa s2 B1 H1 M1 I1 m k e
   | brk=>obtain⟨_,_,_,q⟩:=q;exact q.elim
   | cont=>obtain⟨_,_,_,q⟩:=q;exact q.elim
   | ret u=>obtain⟨_,_,_,_,_,q⟩:=q;exact q.elim
 refine wpAny_mono hex (λfl s' zz111=>?_) λe s' hs=>hs
 obtain⟨u,e,h⟩:=zz111;subst e;exact h
def zUC (x:Str)(s:Stmt):LamI:=match s with
 | .Return (some (.Call _ [_,.Lambda a b c _] _ _)) _=>⟨x ++ ".<locals>." ++ "<lambda>",a,b,c⟩
 | s=>⟨x,zAs s,.Name x ⟨0,0,0,0⟩,zAA s⟩
def zSP (x:Str)(st:Stmt):LamI:=zUC x ((zAK st).getLast?.getD (.Pass ⟨0,0,0,0⟩))
def zHw (st:Stmt):Expr:=match (zAK st).getLast?.getD (.Pass ⟨0,0,0,0⟩) with
 | .Return (some (.Call _ [e,_] _ _)) _=>e
 | _=>.Name "" ⟨0,0,0,0⟩
noncomputable def lamB (x:Str)(ys:List Str)(L:LamI):Bool:=(L.scope.kind==.function)&&!L.scope.isCoroutine&&!L.scope.isGenerator&&decide (x::ys).Nodup&&(L.scope.names.lookup x==some .local)&&ys.all (λy=>L.scope.names.lookup y==some .free)&&L.scope.names.all (λp=>!(p.2==.free)||ys.contains p.1)&&L.scope.names.all (λp=>!(p.2==.cell))&&decide (frN L=ys)
theorem zHv (h:lamB x ys L=true)(hb:∀ cl pm c ctv u,bindArgs (W.kla_fn "<lambda>" L.qual L.params L.body L.scope cl pm c ctv) ⟨[u],[]⟩=pure [(x,u)]):zHX x ys L/\frN L=ys:=by
 unfold lamB at h;simp only[x9,Bool.not_eq_true',qj,all_eq_true,Bool.or_eq_true,beq_iff_eq,List.contains_iff_mem,beq_eq_false_iff_ne] at h;obtain⟨⟨⟨⟨⟨⟨⟨⟨h1,h2⟩,h3⟩,h4⟩,h5⟩,h6⟩,h7⟩,h8⟩,h9⟩:=h;refine⟨⟨h1,h2,h3,h4,h5,h6,λy e=>?_,h8,hb⟩,h9⟩;rcases h7 _ (PySem.mem_of_lookup e) with z | z
 .exact absurd rfl z
 .exact z
theorem zH1 (L:LamI):∀ p∈L.scope.names,p.2=.free->p.1∈frN L:=λp hp hf=>by
 unfold frN;rw[List.mem_reverse];exact mem_map.mpr ⟨p,mem_filter.mpr ⟨hp,by rw[hf];rfl⟩,rfl⟩
noncomputable def capB (sc:Scope)(ps ys:List Str)(ix:List Nat):Bool:=decide (ix.length=ys.length)&&(List.range ys.length).all λk=>match ys[k]?,ix[k]? with
 | some y,some i=>decide (ps[i]?=some y)&&(sc.names.lookup y==some .cell)
 | _,_=>false
theorem zOf (h:capB sc ps ys ix=true):ix.length=ys.length/\∀ (k:Nat) y,ys[k]?=some y->∃ i,ix[k]?=some i/\ps[i]?=some y/\sc.names.lookup y=some .cell:=by
 unfold capB at h;rw[x9,qj,all_eq_true] at h;refine⟨h.1,λk y e=>?_⟩;have hk:k < ys.length:=(zzg e).1;have z:=h.2 k (mem_range.mpr hk);have hi:k < ix.length:=by rw[h.1];exact hk
 have ei:ix[k]?=some ix[k]:=getElem?_eq_getElem hi;rw[e,ei] at z;dsimp only at z;rw[x9,qj,beq_iff_eq] at z;exact⟨_,ei,z.1,z.2⟩
noncomputable def cPre (sc:Scope)(N bs:List Str):MT->List Stmt->Bool
 | .nil,[]=>true
 | .cons a .nil,[s]=>cS' sc N bs a s
 | _,_=>false
def zLE (J:Gm)(Y:Dm):MT->Mst->Option OutM
 | .cons a _=>evS' J Y a
 | _=>λs=>some (.nx s)
section
variable {P:Program}{w:World}{K:W.Frag}{mg:Str->Option Value}{base:Heap}{k:Nat}{J:Gm}{Y:Dm}{bs:List Str}
theorem zOK {st:Stmt}(d:DmOk P w K mg base k Y)(gk:GOk P w K mg base k J bs)(F:Fun K nm x st f fd)(sc:zAi N ps (zAA st))(LD:zFB K x st f N pre e g L ix)
  (ck:cPre (zAA st) N bs mp pre=true) (ce:cM me (zAA st) N bs e=true) (mem:(g,Fg)∈Y) (hg:spec.lookup g=none):FnOk P w K mg base CX0 (k+1) f fd ps (spM K (lamM Fg j L ix ps.length N.length (zLE J Y mp) (evM J Y me))):=by
 have D:=d g Fg mem;rw[hg] at D;obtain⟨fg,fdg,psg,g1,g2,g3,g4⟩:=D;have o:∀ cdv A outer s H E,Room k (A.deeper (envOfC x (zAA st) s.heap.objs.size f cdv))->XOkM (cxOf CX0 P w K mg base N x (zAA st) f cdv A outer s H E).nox k J Y bs:=λcdv A outer s H E hr=>⟨⟨gk,hr,rfl,sc.nd,PassesOwn.never⟩,d⟩
 refine zPr F sc LD ?_ (λcdv A outer s H E hr=>(zCO (o cdv A outer s H E hr) me).e _ ce) g1 g2 g3 g4;unfold cPre at ck;split at ck
 .exact .inl ⟨rfl,rfl⟩
 .exact .inr ⟨_,rfl,λcdv A outer s H E hr=>(zJR (o cdv A outer s H E hr) (λ_=>rfl) _).1 _ ck⟩
 .cases ck
theorem DmOk.addF {x:Str}{st:Stmt}{f:Addr}{fd:FuncData}{N ps:List Str}{g:Str}{L:LamI}{ix:List Nat}{j:Nat}{Fg:MF}{pre:List Stmt}{e:Expr}{mp:MT}{me:ME}(d:DmOk P w K mg base k Y)(gk:GOk P w K mg base k J bs)(F:Fun K x x st f fd)(sc:zAi N ps (zAA st))(LD:zFB K x st f N pre e g L ix)
  (ck:cPre (zAA st) N bs mp pre=true) (ce:cM me (zAA st) N bs e=true) (m:mg x=some (.ref f)) (bi:zBU K fd ps []) (mem:(g,Fg)∈Y) (hg:spec.lookup g=none:=by decide +kernel) (hx:spec.lookup x=none:=by decide +kernel) :
  DmOk P w K mg base (k+1) (Y.add x (lamM Fg j L ix ps.length N.length (zLE J Y mp) (evM J Y me))):=d.one (Nat.le_succ k) (by rw[hx];exact⟨f,fd,ps,zOK d gk F sc LD ck ce mem hg,m,F.kp,bi⟩)
theorem DmOk.addFM {st:Stmt}(d:DmOk P w K mg base k Y)(gk:GOk P w K mg base k J bs)(F:Fun K nm x st f fd)(sc:zAi N ps (zAA st))(LD:zFB K x st f N pre e g L ix)
  (ck:cPre (zAA st) N bs mp pre=true) (ce:cM me (zAA st) N bs e=true) (bi:zBU K fd ps []) (mem:(g,Fg)∈Y) (c1:zCS K c C) (c2:Cls K C) (c3:Meth K C m f) (hx:spec.lookup x=some (.mth c m)) (hg:spec.lookup g=none:=by decide +kernel) :
  DmOk P w K mg base (k+1) (Y.add x (lamM Fg j L ix ps.length N.length (zLE J Y mp) (evM J Y me))):=d.one (Nat.le_succ k) (by rw[hx];exact⟨C,f,fd,ps,c1,c2,c3,zOK d gk F sc LD ck ce mem hg,bi⟩)
end
theorem tabs_of {K:W.Frag}{tl:List (Str×Addr×Addr)}(h1:tabQ K "thinned_covers"=tl.lookup ("thinned_covers":Str))(h2:tabQ K "Fill.films"=tl.lookup ("Fill.films":Str))(h3:tabQ K "Join.films"=tl.lookup ("Join.films":Str))(h4:tabQ K "Group.films"=tl.lookup ("Group.films":Str)):∀ x∈zBx,tabQ K x=tl.lookup x:=by
 intro x hx;simp only[zBx,mem_cons,not_mem_nil,or_false] at hx;rcases hx with rfl | rfl | rfl | rfl
 .exact h1
 .exact h2
 .exact h3
 .exact h4
theorem zOJ (h1:ds.length=n+1)(h2:noFs ds=true)(h:EvP (G (ds.map λd=>some (d,false))) Q):EvP (lamD n G ds) Q:=by
 obtain⟨r,e,q⟩:=h;exact⟨r,by unfold lamD;rw[if_pos ⟨h1,h2⟩];exact e,q⟩
def scB (N P:List Str)(sc:Scope):Bool:=(sc.kind==.function)&&!sc.isCoroutine&&!sc.isGenerator&&decide N.Nodup&&decide (N.take P.length=P)&&P.all (λx=>sc.names.lookup x==some .local||sc.names.lookup x==some .cell)&&sc.names.all λy=>!(y.2==.free)
theorem zNy (h:scB N P sc=true):zAi N P sc:=by
 unfold scB at h;simp only[x9,Bool.not_eq_true',qj,all_eq_true,Bool.or_eq_true,beq_iff_eq,beq_eq_false_iff_ne] at h;obtain⟨⟨⟨⟨⟨⟨h1,h2⟩,h3⟩,h4⟩,h5⟩,h6⟩,h7⟩:=h;exact⟨h1,h2,h3,h4,h5,h6,h7⟩
def dB (st:Stmt)(n:Nat)(N bs:List Str)(b:S):Bool:=scB N (N.take n) (zAA st)&&cSs (zAA st) N bs b (zAK st)
def dM (st:Stmt)(n:Nat)(N bs:List Str)(b:MT):Bool:=scB N (N.take n) (zAA st)&&cSs' (zAA st) N bs b (zAK st)
structure FT (K:W.Frag)(x:Str)(st:Stmt)(f:Addr):Prop where
 a:W.nsIn K mainGlobals x=some (some (.ref f))
 F:∃ fd,Fun K x x st f fd
theorem ft {K:W.Frag}{st:Stmt}{kV:Value}(a:W.nsIn K mainGlobals x=some (some (.ref f)))(l:K.lookup f=some ⟨oc,od,.func (W.fnOf x x (zAs st) (zAK st) (zAA st) .none kV dc pm an cd ct),sl⟩)(c:W.codeIn K cd x=true)(k:W.keepIn K (.ref f)=true):FT K x st f:=⟨a,_,zH0 l c k⟩
def bO (x q:Str)(st:Stmt)(ps:List Str):Prop:=∀ (kV doc pm:Value) (an:Option Addr) (cdv ct:Value) (us:List Value),us.length=ps.length->bindArgs (W.fnOf x q (zAs st) (zAK st) (zAA st) .none kV doc pm an cdv ct) ⟨us,[]⟩=pure (ps.zip us)
theorem bz1 {st:Stmt}(hp:ps.length=1)(h:∀ {kV doc pm:Value} {an:Option Addr} {cdv ct a:Value},bindArgs (W.fnOf x q (zAs st) (zAK st) (zAA st) .none kV doc pm an cdv ct) ⟨[a],[]⟩=pure (ps.zip [a])):bO x q st ps:=λ_ _ _ _ _ _ us hl=>match us,hl.trans hp with | [_],_=>h
theorem bz2 {st:Stmt}(hp:ps.length=2)(h:∀ {kV doc pm:Value} {an:Option Addr} {cdv ct a b:Value},bindArgs (W.fnOf x q (zAs st) (zAK st) (zAA st) .none kV doc pm an cdv ct) ⟨[a,b],[]⟩=pure (ps.zip [a,b])):bO x q st ps:=λ_ _ _ _ _ _ us hl=>match us,hl.trans hp with | [_,_],_=>h
theorem bz3 {st:Stmt}(hp:ps.length=3)(h:∀ {kV doc pm:Value} {an:Option Addr} {cdv ct a b c:Value},bindArgs (W.fnOf x q (zAs st) (zAK st) (zAA st) .none kV doc pm an cdv ct) ⟨[a,b,c],[]⟩=pure (ps.zip [a,b,c])):bO x q st ps:=λ_ _ _ _ _ _ us hl=>match us,hl.trans hp with | [_,_,_],_=>h
theorem bz4 {st:Stmt}(hp:ps.length=4)(h:∀ {kV doc pm:Value} {an:Option Addr} {cdv ct a b c d:Value},bindArgs (W.fnOf x q (zAs st) (zAK st) (zAA st) .none kV doc pm an cdv ct) ⟨[a,b,c,d],[]⟩=pure (ps.zip [a,b,c,d])):bO x q st ps:=λ_ _ _ _ _ _ us hl=>match us,hl.trans hp with | [_,_,_,_],_=>h
theorem bz5 {st:Stmt}(hp:ps.length=5)(h:∀ {kV doc pm:Value} {an:Option Addr} {cdv ct a b c d e:Value},bindArgs (W.fnOf x q (zAs st) (zAK st) (zAA st) .none kV doc pm an cdv ct) ⟨[a,b,c,d,e],[]⟩=pure (ps.zip [a,b,c,d,e])):bO x q st ps:=λ_ _ _ _ _ _ us hl=>match us,hl.trans hp with | [_,_,_,_,_],_=>h
section
variable {P:Program}{w:World}{K:W.Frag}{mg:Str->Option Value}{base h:Heap}{k:Nat}{J:Gm}{Y:Dm}{bs:List Str}{x:Str}{st:Stmt}{f:Addr}{N ps:List Str}{n:Nat}
theorem GOk.addT (g:GOk P w K mg base k J bs)(X:K.In h)(G:h.Ns mainGlobals mg)(t:FT K x st f)(ck:dB st n N bs b=true)(hb:bO x x st (N.take n)):GOk P w K mg base (k+1) (J.add x (dFun (N.take n).length N.length (evSs J b))) bs :=
 let ⟨_,E⟩:=t.F;g.add E (zNy (Bool.and_eq_true_iff.mp ck).1) (Bool.and_eq_true_iff.mp ck).2 (W.mg_of X G t.a) (E.binds hb)
theorem GOk.addU (g:GOk P w K mg base k J bs)(X:K.In h)(G:h.Ns mainGlobals mg)(t:FT K x st f)(ck:dM st n N bs b=true)(hb:bO x x st (N.take n)):GOk P w K mg base k (J.add x (λ_=>none)) bs :=
 let ⟨_,E⟩:=t.F;g.addN E (W.mg_of X G t.a) (E.binds hb)
theorem DmOk.addT (d:DmOk P w K mg base k Y)(g:GOk P w K mg base k J bs)(X:K.In h)(G:h.Ns mainGlobals mg)(t:FT K x st f)(ck:dM st n N bs b=true)(hb:bO x x st (N.take n))(hx:spec.lookup x=none:=by decide +kernel):DmOk P w K mg base (k+1) (Y.add x (zBL (N.take n).length N.length (evSs' J Y b))) :=
 let ⟨_,E⟩:=t.F;d.add g E (zNy (Bool.and_eq_true_iff.mp ck).1) (Bool.and_eq_true_iff.mp ck).2 (W.mg_of X G t.a) (E.binds hb) hx
end
theorem zQl :evM J Y (.pur e)=zMm (evE J e):=rfl
theorem zQk :evM J Y (.var i)=varM i:=rfl
theorem zNP :evM J Y (.call n f es)=fnM Y n f (evMs J Y es):=rfl
theorem zNN  :evMs J Y .nil=nilM:=rfl
theorem zLG :evMs J Y (.cons e es)=zNa (evM J Y e) (evMs J Y es):=rfl
theorem zQm :evM J Y (.lst es)=lstM (evMs J Y es):=rfl
theorem zTL :evM J Y (.ix a b)=twoM (evM J Y a) (evM J Y b) ixW:=rfl
theorem zQe :evT J Y (.pur e)=zMn (asB (evE J e)):=rfl
theorem zK9  :evSs' J Y .nil=(λs=>some (.nx s)):=rfl
theorem zCm :evSs' J Y (.cons a b)=seqM (evS' J Y a) (evSs' J Y b):=rfl
theorem zNI :evS' J Y (.set i e)=setM i (evM J Y e):=rfl
theorem zLC :evS' J Y (.setC i e)=setM i (evM J Y e):=rfl
theorem zNJ :evS' J Y (.ret e)=retM (evM J Y e):=rfl
theorem zH9 :evS' J Y (.ife c a b)=ifM (evT J Y c) (evSs' J Y a) (evSs' J Y b):=rfl
theorem zNK :evS' J Y (.app t e)=appM (evM J Y t) (evM J Y e):=rfl
theorem zNO :evM J Y (.comp n ms u2 src el)=zHQ ms 1 (evSrc J Y src) (tgM n) (evM J Y el):=rfl
theorem zNH :evSrc J Y (.it a)=srcM (evM J Y a):=rfl
section
variable {J:Gm}{Y:Dm}{G:List (Option W)}{O:Mem}{s:Mst}
theorem zAf (hd:drS O G=G')(h:EvP (evE J e G') λr=>EvP (zHU r O) Q):EvP (evM J Y (.pur e) ⟨G,O⟩) Q:=by
 obtain⟨r,e1,z,e2,q⟩:=h;exact⟨z,by rw[zQl];unfold zMm;rw[hd,e1,qx,e2],q⟩
theorem zAo (n:noL d=true)(h:Q (.dat d,O)):EvP (zHU (d,.cl) O) Q:=⟨_,by cases d<;>exact if_pos (e:=none) n,h⟩
theorem zI5 (n:noLs ds=true)(h:Q (.loc O.length,O++[ds.map .dat])):EvP (zHU (.lst ds,.fr) O) Q:=⟨_,if_pos (e:=none) n,h⟩
theorem zAO (e:G[i]?=some (some w))(h:Q (w,O)):EvP (evM J Y (.var i) ⟨G,O⟩) Q:=by
 refine⟨_,?_,h⟩;rw[zQk];unfold varM;show (match G[i]? with | some (some w)=>some (w,O) | _=>none)=_;rw[e]
theorem zBR (e:Y[n]?=some (f,F))(h:EvP (evMs J Y es s) λws=>EvP (F ws.1 ws.2) Q):EvP (evM J Y (.call n f es) s) Q:=by
 obtain⟨ws,e1,r,e2,q⟩:=h;refine⟨r,?_,q⟩;rw[zNP];unfold fnM;rw[e];show (if f=f then zI1 F (evMs J Y es) s else none)=_;rw[if_pos rfl];unfold zI1;rw[e1,qx,e2]
theorem zAg (h:Q ([],O)):EvP (evMs J Y .nil ⟨G,O⟩) Q:=⟨_,by rw[zNN];rfl,h⟩
theorem zAE (h:EvP (evM J Y e s) λw=>EvP (evMs J Y es ⟨s.G,w.2⟩) λws=>Q (w.1::ws.1,ws.2)):EvP (evMs J Y (.cons e es) s) Q:=by
 obtain⟨w,e1,ws,e2,q⟩:=h;exact⟨_,by rw[zLG];unfold zNa;rw[e1,qx,e2,qx],q⟩
theorem zDs (h:EvP (evMs J Y es s) λr=>r.1.length<=10000/\Q (.loc r.2.length,r.2++[r.1])):EvP (evM J Y (.lst es) s) Q:=by
 obtain⟨r,e1,l,q⟩:=h;exact⟨_,by rw[zQm];unfold lstM;rw[e1,qx,if_pos l],q⟩
theorem m_ix (h:EvP (evM J Y a s) λx=>EvP (evM J Y b ⟨s.G,x.2⟩) λy=>EvP (ixW x.1 y.1 y.2) Q):EvP (evM J Y (.ix a b) s) Q:=by
 obtain⟨x,e1,y,e2,r,e3,q⟩:=h;exact⟨_,by rw[zTL];unfold twoM;rw[e1,qx,e2,qx,e3],q⟩
theorem zDE (e:O[n]?=some ws)(e2:atI ws i=some w)(h:Q (w,O)):EvP (ixW (.loc n) (.dat (.int i)) O) Q:=by
 refine⟨_,?_,h⟩;show ((O[n]?).bind λws=>(atI ws i).map λw=>(w,O))=_;rw[e,qx,e2]
 rfl
theorem zFz (hd:drS O G=G')(h:EvP (evE J e G') λr=>∃ b,r.1=.bl b/\Q (b,O)):EvP (evT J Y (.pur e) ⟨G,O⟩) Q:=by
 obtain⟨r,e1,b,e2,q⟩:=h;refine⟨_,?_,q⟩;rw[zQe];unfold zMn;rw[hd];have:asB (evE J e) G'=some b:=by
  unfold asB;rw[e1];obtain⟨d,k⟩:=r;cases e2
  rfl
 rw[this]
 rfl
def KM (J:Gm)(Y:Dm)(b:MT)(Q:OutM->Prop):OutM->Prop
 | .nx s=>EvP (evSs' J Y b s) Q
 | o=>Q o
theorem zAx (h:Q (.nx s)):EvP (evSs' J Y .nil s) Q:=⟨_,by rw[zK9],h⟩
theorem zAB (h:EvP (evS' J Y a s) (KM J Y b Q)):EvP (evSs' J Y (.cons a b) s) Q:=by
 obtain⟨o,e1,q⟩:=h;cases o with
 | nx s' =>
  obtain⟨r,e2,q⟩:=q;exact⟨r,by rw[zCm];unfold seqM;rw[e1,qx];exact e2,q⟩
 | rt r=>exact⟨_,by rw[zCm];unfold seqM;rw[e1,qx],q⟩
 | bk r=>exact⟨_,by rw[zCm];unfold seqM;rw[e1,qx],q⟩
 | ct r=>exact⟨_,by rw[zCm];unfold seqM;rw[e1,qx],q⟩
theorem zAW (h:EvP (evSs' J Y b s) Q):KM J Y b Q (.nx s):=h
theorem zEK (h:Q (.rt r)):KM J Y b Q (.rt r):=h
theorem zA6 (h:EvP (evM J Y e s) λr=>Q (.nx ⟨s.G.set i (some r.1),r.2⟩)):EvP (evS' J Y (.set i e) s) Q:=by
 obtain⟨r,e1,q⟩:=h;exact⟨_,by rw[zNI];unfold setM;rw[e1];rfl,q⟩
theorem zFI (h:EvP (evM J Y e s) λr=>Q (.nx ⟨s.G.set i (some r.1),r.2⟩)):EvP (evS' J Y (.setC i e) s) Q:=by
 obtain⟨r,e1,q⟩:=h;exact⟨_,by rw[zLC];unfold setM;rw[e1];rfl,q⟩
theorem zB1 (h:EvP (evM J Y e s) λr=>Q (.rt r)):EvP (evS' J Y (.ret e) s) Q:=by
 obtain⟨r,e1,q⟩:=h;exact⟨_,by rw[zNJ];unfold retM;rw[e1];rfl,q⟩
theorem zCU (h:EvP (evT J Y c s) λr=>(r.1=true->EvP (evSs' J Y a ⟨s.G,r.2⟩) Q)/\(r.1=false->EvP (evSs' J Y b ⟨s.G,r.2⟩) Q)):EvP (evS' J Y (.ife c a b) s) Q:=by
 obtain⟨⟨r,m⟩,e1,q1,q2⟩:=h;cases r with
 | true =>
  obtain⟨o,e2,q⟩:=q1 rfl;exact⟨o,by rw[zH9];unfold ifM;rw[e1,qx];exact(if_pos rfl).trans e2,q⟩
 | false =>
  obtain⟨o,e2,q⟩:=q2 rfl;exact⟨o,by rw[zH9];unfold ifM;rw[e1,qx];exact(if_neg qY).trans e2,q⟩
theorem zCP (h:EvP (evM J Y t s) λx=>EvP (evM J Y e ⟨s.G,x.2⟩) λr=>∃ n ws,x.1=.loc n/\r.2[n]?=some ws/\ws.length<=10000/\Q (.nx ⟨s.G,r.2.set n (ws++[r.1])⟩)):EvP (evS' J Y (.app t e) s) Q:=by
 obtain⟨⟨x,m⟩,e1,r,e2,n,ws,e3,e4,l,q⟩:=h;cases e3;refine⟨_,?_,q⟩;rw[zNK];unfold appM;rw[e1,qx];simp only;rw[e2,qx,e4,qx,if_pos l]
def KFM (Q:MR->Prop):OutM->Prop
 | .rt r=>Q r
 | .nx s=>Q (.dat .non,s.O)
 | _=>False
theorem zDH (h1:ws.length=np)(h2:np<=nN)(h:EvP (g ⟨ws.map some++List.replicate (nN - np) none,O⟩) (KFM Q)):EvP (zBL np nN g ws O) Q:=by
 obtain⟨o,e1,q⟩:=h;cases o with
 | rt r=>exact⟨_,by unfold zBL;rw[if_pos ⟨h1,h2⟩,e1];rfl,q⟩
 | nx s=>exact⟨_,by unfold zBL;rw[if_pos ⟨h1,h2⟩,e1];rfl,q⟩
 | bk _=>exact q.elim
 | ct _=>exact q.elim
theorem zGt :∀ ds:List D,sbL f (ds.map .dat)=some ds
 | []=>by rw[map_nil,sbL]
 | d::ds=>by rw[map_cons,sbL,sbW,qx,zGt ds];rfl
theorem zGW (e:O[n]?=some ws)(h:sbL (drN O k) ws=some ds):drN O (k+1) n=some (.lst ds):=by
 rw[drN,e,qx,h];rfl
theorem zLP (e:O[n]?=some (ds.map .dat)):drN O (k+1) n=some (.lst ds):=zGW e (zGt ds)
theorem zLS :drS O (some (.dat d)::G)=some (d,false)::drS O G:=by
 show ((drW O (.dat d)).map λd=>(d,false))::drS O G=_;unfold drW;rw[sbW]
 rfl
theorem zLR (h:drN O 6 n=some d):drS O (some (.loc n)::G)=some (d,false)::drS O G:=by
 show ((drW O (.loc n)).map λd=>(d,false))::drS O G=_;unfold drW;rw[sbW,h]
 rfl
theorem zCa (h:drS O G=G'):drS O (some (.dat d)::G)=some (d,false)::G':=by rw[<- h];exact zLS
theorem zAr (h:drS O G=G'):drS O (o::G)=(o.bind λw=>(drW O w).map λd=>(d,false))::G':=by rw[<- h];rfl
theorem zGJ (h:EvP (evSrc J Y src s) λz=>∃ y N,zB6 (tgM n) (evM J Y el) z.1 N 0 ⟨mask none ms s.G++[none],z.2⟩ []=some y/\y.1.length<=10000/\Q (.loc y.2.length,y.2++[y.1])):EvP (evM J Y (.comp n ms x src el) s) Q:=by
 obtain⟨z,e1,y,N,e2,l,q⟩:=h;refine⟨_,?_,q⟩;rw[zNO];unfold zHQ;rw[e1,qx];show (zE5 (tgM n) (evM J Y el) z.1 ⟨mask none ms s.G++[none],z.2⟩).bind _=_;rw[zLd e2,qx,if_pos l]
theorem zRJ (e:evM J Y a s=some (.loc n,m))(h:Q (.live n,m)):EvP (evSrc J Y (.it a) s) Q:=by
 refine⟨_,?_,h⟩;rw[zNH];unfold srcM;rw[e]
 rfl
end
end DL
end
section
namespace DL
open PySem L2
end DL
end
section
namespace DL
open PySem Spec PyProof.Rows L2
theorem zLD :evS' J Y (.for1 i src b)=(λs=>(evSrc J Y src s).bind λr=>zFi (tgM i) (evSs' J Y b) r.1 0 ⟨s.G,r.2⟩):=rfl
theorem zLB :evSrc J Y (.rng a)=zMK (evM J Y a):=rfl
section
variable {J:Gm}{Y:Dm}{G:List (Option W)}{O:Mem}{s:Mst}
def KLM (P:Mst->Prop)(Q:OutM->Prop):OutM->Prop
 | .nx s=>P s
 | .ct s=>P s
 | .bk s=>Q (.nx s)
 | .rt r=>Q (.rt r)
theorem zDJ (ws:List W)(P:Nat->Mst->Prop)(it:∀ j s,P j s->itm s.O src=some ws)
  (step:∀ j w s,ws[j]?=some w->P j s->∃ s1,t w s=some s1/\EvP (b s1) (KLM (P (j+1)) Q)) (fin:∀ s,P ws.length s->Q (.nx s)) (h:P 0 s):EvP (zFi t b src 0 s) Q:=by
 have key:∀ (k j:Nat) (s:Mst),j+k=ws.length->P j s->∃ o,forN t b src (k+1) j s=some o/\Q o:=by
  intro k
  induction k with
  | zero =>
   intro j s e p;have ej:j=ws.length:=by omega
   subst ej;refine⟨_,?_,fin s p⟩;rw[forN,it _ s p,qx,getElem?_eq_none (le_refl _)]
  | succ k ih =>
   intro j s e p;have hj:j < ws.length:=by omega
   have ew:ws[j]?=some ws[j]:=getElem?_eq_getElem hj;obtain⟨s1,e1,o,e2,q⟩:=step j _ s ew p;cases o with
   | nx s' =>
    obtain⟨o',e3,q'⟩:=ih (j+1) s' (by omega) q;exact⟨o',by rw[forN,it j s p,qx,ew];dsimp only;rw[e1,qx,e2,qx];exact e3,q'⟩
   | ct s' =>
    obtain⟨o',e3,q'⟩:=ih (j+1) s' (by omega) q;exact⟨o',by rw[forN,it j s p,qx,ew];dsimp only;rw[e1,qx,e2,qx];exact e3,q'⟩
   | bk s'=>exact⟨_,by rw[forN,it j s p,qx,ew];dsimp only;rw[e1,qx,e2,qx],q⟩
   | rt r=>exact⟨_,by rw[forN,it j s p,qx,ew];dsimp only;rw[e1,qx,e2,qx],q⟩
 obtain⟨o,e,q⟩:=key ws.length 0 s (by omega) h;exact⟨o,zNC e,q⟩
theorem zCA (h:EvP (evSrc J Y src s) λr=>EvP (zFi (tgM i) (evSs' J Y b) r.1 0 ⟨s.G,r.2⟩) Q):EvP (evS' J Y (.for1 i src b) s) Q:=by
 obtain⟨r,e1,o,e2,q⟩:=h;exact⟨o,by rw[zLD];dsimp only;rw[e1,qx];exact e2,q⟩
theorem zBO (h:EvP (evM J Y a s) λx=>∃ n,x.1=.loc n/\Q (.live n,x.2)):EvP (evSrc J Y (.it a) s) Q:=by
 obtain⟨⟨x,m⟩,e,n,e2,q⟩:=h;cases e2;exact zRJ e q
theorem zDR (h:EvP (evM J Y a s) λx=>∃ j,x.1=.dat (.int j)/\(-(2^62)<=j/\j < 2^62)/\Q (.items ((rngL 0 j.toNat).map .dat),x.2)):EvP (evSrc J Y (.rng a) s) Q:=by
 obtain⟨⟨x,m⟩,e,j,e2,l,q⟩:=h;cases e2;refine⟨_,?_,q⟩;rw[zLB];unfold zMK;rw[e,qx];exact if_pos l
end
end DL
namespace DL
open PySem L2
end DL
end
section
namespace DL
open PySem L2
def news (m k:Nat):List W:=(List.range k).map λj=>.loc (m+j)
theorem zDC (m i:Nat):news m (i+1)=news m i++[.loc (m+i)]:=by unfold news;rw[range_succ,xJ];rfl
theorem zCE (m i:Nat):(news m i).length=i:=by unfold news;rw[qy,length_range]
theorem zPd (h:i < k):(news m k)[i]?=some (.loc (m+i)):=by unfold news;rw[List.getElem?_map,getElem?_range h];rfl
theorem zGb (ws:List W)(P:Nat->Mst->List W->Prop)(it:∀ j s d,P j s d->itm s.O src=some ws)
  (step:∀ j w s d,ws[j]?=some w->P j s d->d.length<=10000/\∃ s1 r,t w s=some s1/\e s1=some r/\P (j+1) ⟨s1.G,r.2⟩ (d++[r.1])) (h:P 0 s []):∃ y s' N,zB6 t e src N 0 s []=some y/\P ws.length s' y.1/\s'.O=y.2:=by
 have key:∀ (k j:Nat) (s:Mst) (d:List W),j+k=ws.length->P j s d->∃ y s',zB6 t e src (k+1) j s d=some y/\P ws.length s' y.1/\s'.O=y.2:=by
  intro k
  induction k with
  | zero =>
   intro j s d ej p;have ej:j=ws.length:=by omega
   subst ej;refine⟨(d,s.O),s,?_,p,rfl⟩;rw[zB6,it _ s d p,qx,getElem?_eq_none (le_refl _)]
  | succ k ih =>
   intro j s d ej p;have hj:j < ws.length:=by omega
   have ew:ws[j]?=some ws[j]:=getElem?_eq_getElem hj;obtain⟨l,s1,r,e1,e2,q⟩:=step j _ s d ew p;obtain⟨y,s',e3,q'⟩:=ih (j+1) ⟨s1.G,r.2⟩ _ (by omega) q;refine⟨y,s',?_,q'⟩;rw[zB6,it j s d p,qx,ew];dsimp only;rw[e1,qx,e2,qx,if_pos l];exact e3
 obtain⟨y,s',e,q⟩:=key ws.length 0 s [] (by omega) h;exact⟨y,s',_,e,q⟩
mutual
theorem zHe {f g:Nat->Option D}(hf:∀ n d,f n=some d->g n=some d):∀ {w:W} {d:D},sbW f w=some d->sbW g w=some d
 | .dat x,d,e=>by rw[sbW] at e ⊢;exact e
 | .loc n,d,e=>by rw[sbW] at e ⊢;exact hf n d e
 | .tup ws,d,e=>by
  rw[sbW] at e ⊢;obtain⟨ds,e1,rfl⟩:=yq.mp e;rw[sbL_mono hf e1]
  rfl
 | .obj c ns ws,d,e=>by rw[sbW] at e ⊢;exact e
theorem sbL_mono {f g:Nat->Option D}(hf:∀ n d,f n=some d->g n=some d):∀ {ws:List W} {ds:List D},sbL f ws=some ds->sbL g ws=some ds
 | [],ds,e=>by rw[sbL] at e ⊢;exact e
 | w::ws,ds,e=>by
  rw[sbL] at e ⊢;obtain⟨d,e1,e⟩:=bind_some e;obtain⟨ds',e2,rfl⟩:=yq.mp e;rw[zHe hf e1,qx,sbL_mono hf e2]
  rfl
end
theorem zIC (hm:∀ (n:Nat) (ws:List W),O[n]?=some ws->O1[n]?=some ws):∀ (k n:Nat) (d:D),drN O k n=some d->drN O1 k n=some d
 | 0,_,_,e=>by cases e
 | k+1,n,d,e=>by
  rw[drN] at e ⊢;obtain⟨ws,e1,e⟩:=bind_some e;obtain⟨ds,e2,rfl⟩:=yq.mp e;rw[hm n ws e1,qx,sbL_mono (λn d q=>zIC hm k n d q) e2]
  rfl
theorem zNW (hm:∀ (n:Nat) (ws:List W),O[n]?=some ws->O1[n]?=some ws)(e:drW O w=some d):drW O1 w=some d:=zHe (λn d q=>zIC hm 6 n d q) e
theorem zAa {L:Mem}{n:Nat}{ws:List W}(h:O[n]?=some ws):(O++L)[n]?=some ws:=by
 rw[getElem?_append_left (zzg h).1];exact h
theorem zFM {g:Nat->Option D}{U:Type}(ad:U->Nat)(d:U->D):∀ l:List U,(∀ i∈l,g (ad i)=some (d i))->sbL g (l.map λi=>.loc (ad i))=some (l.map d)
 | [],_=>by rw[map_nil,sbL];rfl
 | i::l,h=>by
  rw[map_cons,sbL,sbW,h i q8,qx,zFM ad d l λj hj=>h j (qJ _ hj)]
  rfl
def zLN:MT:=.cons (.ret (.comp 1 [] "k" (.rng (.var 0)) (.lst .nil))) .nil
def zIP (F:MF):Prop:=∀ (k:Nat) (O:Mem) (Q:MR->Prop),k<=100->Q (.loc (O.length+k),O++List.replicate k []++[news O.length k])->EvP (F [.dat (.int k)] O) Q
theorem zNU :zIP (zBL 1 1 (evSs' J Y zLN)):=λk O Q hk h=>by
 refine zDH rfl (by decide) ?_;unfold zLN;refine zAB (zB1 (zGJ (zDR (zAO (w:=.dat (.int k)) rfl ⟨(k:Int),rfl,by omega,?_⟩))));rw[toNat_natCast];obtain⟨y,s',N,e,⟨o,p1,p2,p3⟩,p4⟩:=zGb (t:=tgM 1) (e:=evM J Y (.lst .nil)) (src:=.items ((rngL 0 k).map .dat)) (s:=⟨mask none [] [some (.dat (.int k))]++[none],O⟩) ((rngL 0 k).map .dat)
  (λj s d=>∃ o:Option W,s=⟨[some (.dat (.int k)),o],O++List.replicate j []⟩/\d=news O.length j/\j<=k) (λj s d _=>rfl) (λj w s d ew zz112=>by
   obtain⟨o,p1,p2,p3⟩:=zz112;subst p1 p2;have hj:j < k:=by
    have:=(zzg ew).1;rw[qy,zAt] at this;exact this
   refine⟨by rw[zCE];omega,⟨[some (.dat (.int k)),some w],O++List.replicate j []⟩,(.loc (O++List.replicate j []).length,O++List.replicate j []++[[]]),rfl,?_,some w,?_,?_,by omega⟩
   .exact (zDs (Q:=λr=>r=(W.loc (O++List.replicate j []).length,O++List.replicate j []++[[]])) (zAg ⟨zero_le _,rfl⟩)).eq
   .rw [List.replicate_succ',q0]
   .rw [zDC,qQ,length_replicate]) ⟨none,by rw[List.replicate_zero,append_nil];rfl,rfl,zero_le _⟩
 have lw:((rngL 0 k).map W.dat).length=k:=by rw[qy,zAt]
 rw[lw] at p1 p2;subst p1;have e2:y=(news O.length k,O++List.replicate k []):=Prod.ext p2 p4.symm;refine⟨y,N,e,by rw[p2,zCE];omega,?_⟩;rw[e2];show KFM Q (.rt (.loc (O++List.replicate k []).length,_));rw[qQ,length_replicate];exact h
structure zBo (O:Mem)(a w h:Nat)(f:Nat->Nat->List Rat):Prop where
 cell:∀ r c,r < h->c<=w->O[a+r*(w+2)+c]?=some ((f r c).map λq=>.dat (ratD q))
 row:∀ r,r < h->O[a+r*(w+2)+(w+1)]?=some (news (a+r*(w+2)) (w+1))
 top:O[a+h*(w+2)]?=some ((List.range h).map λr=>.loc (a+r*(w+2)+(w+1)))
theorem zBo.keep (t:zBo O a w h f)(k:∀ (n:Nat) (ws:List W),a<=n->n<=a+h*(w+2)->O[n]?=some ws->O1[n]?=some ws):zBo O1 a w h f:=by
 have lt:∀ r c,r < h->c<=w+1->r*(w+2)+c < h*(w+2):=λr c hr hc=>by
  have:=mul_le_mul_right (w+2) (show r+1<=h from hr);rw[Nat.succ_mul] at this;omega
 exact⟨λr c hr hc=>k _ _ (by omega) (by have:=lt r c hr (by omega);omega) (t.cell r c hr hc),λr hr=>k _ _ (by omega) (by have:=lt r (w+1) hr (by omega);omega) (t.row r hr),k _ _ (by omega) (le_refl _) t.top⟩
theorem zBo.app (t:zBo O a w h f)(L:Mem):zBo (O++L) a w h f:=t.keep λ_ _ _ _ e=>zAa e
theorem zON (hc:c<=w+1)(hc':c'<=w+1)(e:r*(w+2)+c=r'*(w+2)+c'):r=r'/\c=c':=by
 have lt:∀ {r r' c c':Nat},c<=w+1->r < r'->r*(w+2)+c < r'*(w+2)+c':=λ{r r' c c'} hc hr=>by
  have:=mul_le_mul_right (w+2) (show r+1<=r' from hr);rw[Nat.succ_mul] at this;omega
 rcases Nat.lt_trichotomy r r' with q | q | q
 .have:=lt (c':=c') hc q;omega
 .subst q;exact⟨rfl,by omega⟩
 .have:=lt (c':=c) hc' q;omega
noncomputable def more (f:Nat->Nat->List Rat)(r c:Nat)(q:Rat):Nat->Nat->List Rat:=λr' c'=>if r'=r/\c'=c then f r c++[q] else f r' c'
theorem zBo.more (t:zBo O a w h f)(hr:r < h)(hc:c<=w):zBo (O.set (a+r*(w+2)+c) (((f r c).map λq=>.dat (ratD q))++[.dat (ratD q)])) a w h (more f r c q):=by
 have hl:=(zzg (t.cell r c hr hc)).1;have hn:r*(w+2)+c < h*(w+2):=by
  have:=mul_le_mul_right (w+2) (show r+1<=h from hr);rw[Nat.succ_mul] at this;omega
 refine⟨λr' c' hr' hc'=>?_,λr' hr'=>?_,?_⟩
 .by_cases e:r'=r/\c'=c
  .obtain ⟨rfl,rfl⟩:=e;rw[getElem?_set_self hl];unfold DL.more;rw[if_pos ⟨rfl,rfl⟩,xJ]
   rfl
  .unfold DL.more;rw[if_neg e,getElem?_set_ne]
   .exact t.cell r' c' hr' hc'
   .intro z;have:=zON (w:=w) (r:=r) (c:=c) (r':=r') (c':=c') (by omega) (by omega) (by omega);exact e ⟨this.1.symm,this.2.symm⟩
 .rw [getElem?_set_ne]
  .exact t.row r' hr'
  .intro z;have:=zON (w:=w) (r:=r) (c:=c) (r':=r') (c':=w+1) (by omega) (by omega) (by omega);omega
 .rw [getElem?_set_ne (by omega)];exact t.top
theorem zBo.other (t:zBo O a w h f)(hn:n < a\/a+h*(w+2) < n):zBo (O.set n x) a w h f:=t.keep λm ws h1 h2 e=>by
 rw[getElem?_set_ne (by omega)];exact e
theorem zO4 (qs:List Rat):sbL f (qs.map λq=>W.dat (ratD q))=some (qs.map ratD):=by
 have:(qs.map λq=>W.dat (ratD q))=(qs.map ratD).map .dat:=by rw[map_map];rfl
 rw[this];exact zGt _
theorem zNv (t:zBo O a w h f):drN O 6 (a+h*(w+2))=some (.lst ((List.range h).map λr=>zFO ((List.range (w+1)).map (f r)))):=by
 refine zGW t.top (zFM (λr=>a+r*(w+2)+(w+1)) (λr=>zFO ((List.range (w+1)).map (f r))) _ λr hr=>?_);have hr:=mem_range.mp hr;have q:drN O 5 (a+r*(w+2)+(w+1))=some (.lst ((List.range (w+1)).map λc=>zCp (f r c))):=by
  refine zGW (t.row r hr) (zFM (λc=>a+r*(w+2)+c) (λc=>zCp (f r c)) _ λc hc=>?_);have hc:=mem_range.mp hc;exact zGW (t.cell r c hr (by omega)) (zO4 _)
 rw[q];unfold zFO;rw[map_map]
 rfl
noncomputable def tabE (ne:Nat):ME:=.comp 7 [] "row" (.rng (.var 1)) (.call ne "empty_lists" (.cons (.pur (.bin .Add (.var 0) (.int 1))) .nil))
theorem zNu (ee:Y[ne]?=some (("empty_lists":Str),Fe))(he:zIP Fe)(hw:w<=6)(hh:h<=6)
  (hQ:∀ L:Mem,L.length=h*(w+2)+1->zBo (O++L) O.length w h (λ_ _=>[])->Q (.loc (O.length+h*(w+2)),O++L)) :
  EvP (evM J Y (tabE ne) ⟨[some (.dat (.int w)),some (.dat (.int h)),x2,x3,x4,x5,x6],O⟩) Q:=by
 unfold tabE;refine zGJ (zDR (zAO (w:=.dat (.int h)) rfl ⟨(h:Int),rfl,by omega,?_⟩));rw[toNat_natCast];obtain⟨y,s',N,e,⟨o,L,p1,p2,p3,p4,p5,p6⟩,p7⟩:=zGb (t:=tgM 7) (e:=evM J Y (.call ne "empty_lists" (.cons (.pur (.bin .Add (.var 0) (.int 1))) .nil))) (src:=.items ((rngL 0 h).map .dat)) (s:=⟨mask none [] [some (.dat (.int w)),some (.dat (.int h)),x2,x3,x4,x5,x6]++[none],O⟩) ((rngL 0 h).map .dat)
  (λj s d=>∃ (o:Option W) (L:Mem),s=⟨[some (.dat (.int w)),some (.dat (.int h)),x2,x3,x4,x5,x6,o],O++L⟩/\d=(List.range j).map (λr=>W.loc (O.length+r*(w+2)+(w+1)))/\L.length=j*(w+2)/\j<=h /\
   (∀ r c,r < j->c<=w->(O++L)[O.length+r*(w+2)+c]?=some [])/\∀ r,r < j->(O++L)[O.length+r*(w+2)+(w+1)]?=some (news (O.length+r*(w+2)) (w+1))) (λj s d _=>rfl) (λj x s d ew zz113=>by
   obtain⟨o,L,p1,p2,p3,p4,p5,p6⟩:=zz113;subst p1 p2;have hj:j < h:=by
    have:=(zzg ew).1;rw[qy,zAt] at this;exact this
   have lg:(O++L).length=O.length+j*(w+2):=by rw[qQ,p3]
   refine⟨by rw[qy,length_range];omega,⟨[some (.dat (.int w)),some (.dat (.int h)),x2,x3,x4,x5,x6,some x],O++L⟩,(.loc ((O++L).length+(w+1)),(O++L)++List.replicate (w+1) []++[news (O++L).length (w+1)]),rfl,?_,some x,L++List.replicate (w+1) []++[news (O++L).length (w+1)],?_,?_,?_,by omega,?_,?_⟩
   .refine (zBR (Q:=λr=>r=(W.loc ((O++L).length+(w+1)),(O++L)++List.replicate (w+1) []++[news (O++L).length (w+1)])) ee (zAE (zAf zLS (zAc (zAH rfl (zAN (zDt (zAo rfl (zAg ?_))))))))).eq;exact he (w+1) (O++L) _ (by omega) rfl
   .simp only [q0]
   .rw [range_succ,xJ,lg];rfl
   .simp only [qQ,length_replicate,length_singleton,p3];rw[Nat.succ_mul];omega
   .intro r c hr hc;by_cases q:r < j
    .rw [<- q0,<- q0];exact zAa (zAa (p5 r c q hc))
    .have:r=j:=by omega
     subst this;rw[<- q0,<- q0,getElem?_append_left (by rw[qQ,length_replicate,lg];omega),getElem?_append_right (by rw[lg];omega),lg,getElem?_replicate];rw[if_pos (by omega)]
   .intro r hr;by_cases q:r < j
    .rw [<- q0,<- q0];exact zAa (zAa (p6 r q))
    .have:r=j:=by omega
     subst this;have ll:(O++L++List.replicate (w+1) []).length=O.length+r*(w+2)+(w+1):=by rw[qQ,length_replicate,lg]
     rw[<- q0,<- q0,getElem?_append_right (by rw[ll];exact le_refl _),ll,sub_self];show some (news (O++L).length (w+1))=_;rw[lg]) ⟨none,[],by rw[append_nil];rfl,rfl,by simp,zero_le _,λr c hr=>absurd hr (by omega),λr hr=>absurd hr (by omega)⟩
 have lw:((rngL 0 h).map W.dat).length=h:=by rw[qy,zAt]
 rw[lw] at p2 p3 p5 p6;subst p1;have e2:y=((List.range h).map (λr=>W.loc (O.length+r*(w+2)+(w+1))),O++L):=Prod.ext p2 p7.symm;refine⟨y,N,e,by rw[p2,qy,length_range];omega,?_⟩;rw[e2];have lg:(O++L).length=O.length+h*(w+2):=by rw[qQ,p3]
 show Q (.loc (O++L).length,(O++L)++[_]);rw[lg,q0];refine hQ _ (by rw[qQ,p3];rfl) ⟨λr c hr hc=>?_,λr hr=>?_,?_⟩
 .rw [<- q0];exact zAa (p5 r c hr hc)
 .rw [<- q0];exact zAa (p6 r hr)
 .rw [<- q0,getElem?_append_right (by rw[lg];exact le_refl _),lg,sub_self]
  rfl
theorem zOO (e:atI ds i=some d)(h:Q (.dat d,O)):EvP (ixW (.dat (.tup ds)) (.dat (.int i)) O) Q:=by
 refine⟨_,?_,h⟩;show (atI ds i).map _=_;rw[e]
 rfl
theorem zQv (h:drW O x=some d):drS O (some x::G)=some (d,false)::drS O G:=by
 show ((drW O x).map λd=>(d,false))::drS O G=_;rw[h]
 rfl
def fc (zs:List Pc)(r c:Nat):List Rat:=(zs.filter λz=>decide (z.r=(r:Int))&&decide (z.c+1=(c:Int))).map zCq
def gc (zs:List Pc)(r c:Nat):List Rat:=(zs.filter λz=>decide (z.r=(r:Int))&&decide (z.c+1=(c:Int))).map zC7
theorem zQW (hz:PcB n w h z):fc (zs++[z])=more (fc zs) z.r.toNat (z.c+1).toNat (zCq z):=by
 have r0:=hz.r0;have c0:=hz.c0;funext r c;unfold fc more;rw[List.filter_append,xJ];by_cases e:r=z.r.toNat/\c=(z.c+1).toNat
 .obtain ⟨rfl,rfl⟩:=e;rw[if_pos ⟨rfl,rfl⟩];have:List.filter (λz_1=>decide (z_1.r=(z.r.toNat:Int))&&decide (z_1.c+1=((z.c+1).toNat:Int))) [z]=[z]:=by
   rw[filter_cons,if_pos (by simp only[x9,qj];omega)]
   rfl
  rw[this]
  rfl
 .rw [if_neg e];have:List.filter (λz_1=>decide (z_1.r=(r:Int))&&decide (z_1.c+1=(c:Int))) [z]=[]:=by
   rw[filter_cons,if_neg (by simp only[x9,qj];omega)]
   rfl
  rw[this];simp
theorem zQP (hz:PcB n w h z):gc (zs++[z])=more (gc zs) z.r.toNat (z.c+1).toNat (zC7 z):=by
 have r0:=hz.r0;have c0:=hz.c0;funext r c;unfold gc more;rw[List.filter_append,xJ];by_cases e:r=z.r.toNat/\c=(z.c+1).toNat
 .obtain ⟨rfl,rfl⟩:=e;rw[if_pos ⟨rfl,rfl⟩];have:List.filter (λz_1=>decide (z_1.r=(z.r.toNat:Int))&&decide (z_1.c+1=((z.c+1).toNat:Int))) [z]=[z]:=by
   rw[filter_cons,if_pos (by simp only[x9,qj];omega)]
   rfl
  rw[this]
  rfl
 .rw [if_neg e];have:List.filter (λz_1=>decide (z_1.r=(r:Int))&&decide (z_1.c+1=(c:Int))) [z]=[]:=by
   rw[filter_cons,if_neg (by simp only[x9,qj];omega)]
   rfl
  rw[this];simp
def zPp (nf nr:Nat):MT:=.cons (.set 6 (.pur (.bin .Add (.ix (.var 5) (.int 0)) (.int 1)))) (.cons (.app (.ix (.ix (.var 3) (.ix (.var 5) (.pur (.int 1)))) (.var 6)) (.pur (.call nf "fall" (.cons (.var 5) .nil)))) (.cons (.app (.ix (.ix (.var 4) (.ix (.var 5) (.pur (.int 1)))) (.var 6)) (.pur (.call nr "right" (.cons (.var 5) .nil)))) .nil))
theorem zKR (ef:J.fns[nf]?=some (("fall":Str),Ff))(er:J.fns[nr]?=some (("right":Str),Fr))(hf:zL1 Ff)(hr:zIM Fr)
  (hz:PcB n w h z) (hn:n<=1000) (hw:w<=100) (tf:zBo O a w h f) (tg:zBo O b w h g) (ab:a+h*(w+2) < b) (lf:∀ r c,(f r c).length<=10000) (lg:∀ r c,(g r c).length<=10000)
  (hQ:∀ O1:Mem,O1.length=O.length->(∀ m:Nat,m < a->O1[m]?=O[m]?)->(∀ m:Nat,b+h*(w+2) < m->O1[m]?=O[m]?)->zBo O1 a w h (more f z.r.toNat (z.c+1).toNat (zCq z))->zBo O1 b w h (more g z.r.toNat (z.c+1).toNat (zC7 z))->Q (.nx ⟨[x0,x1,x2,some (.loc (a+h*(w+2))),some (.loc (b+h*(w+2))),some (.dat (pcD z)),some (.dat (.int (z.c+1)))],O1⟩)) :
  EvP (evSs' J Y (zPp nf nr) ⟨[x0,x1,x2,some (.loc (a+h*(w+2))),some (.loc (b+h*(w+2))),some (.dat (pcD z)),x6],O⟩) Q:=by
 have r0:=hz.r0;have r1:=hz.r1;have c0:=hz.c0;have c1:=hz.c1;have eR:z.r=((z.r.toNat:Nat):Int):=by omega
 have eC:z.c+1=(((z.c+1).toNat:Nat):Int):=by omega
 have hR:z.r.toNat < h:=by omega
 have hC:(z.c+1).toNat<=w:=by omega
 have atT:∀ (a:Nat),atI ((List.range h).map λr=>W.loc (a+r*(w+2)+(w+1))) z.r=some (.loc (a+z.r.toNat*(w+2)+(w+1))):=λa=>by
  have q:atI ((List.range h).map λr=>W.loc (a+r*(w+2)+(w+1))) ((z.r.toNat:Nat):Int)=some (.loc (a+z.r.toNat*(w+2)+(w+1))):=zAn (by rw[List.getElem?_map,getElem?_range hR];rfl);rw[<- eR] at q;exact q
 have atR:∀ (a:Nat),atI (news (a+z.r.toNat*(w+2)) (w+1)) (z.c+1)=some (.loc (a+z.r.toNat*(w+2)+(z.c+1).toNat)):=λa=>by
  have q:atI (news (a+z.r.toNat*(w+2)) (w+1)) (((z.c+1).toNat:Nat):Int)=some (.loc (a+z.r.toNat*(w+2)+(z.c+1).toNat)):=zAn (zPd (by omega));rw[<- eC] at q;exact q
 have pc1:atI [D.int z.c,.int z.r,ptD z.p,ptD z.q] 1=some (.int z.r):=rfl;have hn2:z.r.toNat*(w+2)+(z.c+1).toNat < h*(w+2):=by
  have:=mul_le_mul_right (w+2) (show z.r.toNat+1<=h from hR);rw[Nat.succ_mul] at this;omega
 unfold zPp;refine zAB (zA6 (zAf (zAr (zAr (zAr (zAr (zAr (zCa rfl)))))) ?_));refine zAc (zBY (zAH rfl (zAN (zDG (d:=.int z.c) rfl (zAN (zDt (zAo rfl (zAW ?_))))))));(walk_at "s");refine zAB (zCP (m_ix (m_ix (zAO rfl (m_ix (zAO rfl (zAf rfl (zAN (zAo rfl ?_)))))))));refine zOO pc1 (zDE tf.top (atT a) (zAO rfl (zDE (tf.row _ hR) (atR a) ?_)));refine zAf (zAr (zAr (zAr (zAr (zAr (zCa rfl)))))) ?_;refine zAM ef (zAD (zAH rfl (n_cl (zAe ?_))));refine hf z.c z.r z.p z.q _ _ hz.p hz.q (by omega) ?_;refine n_cl (zAo rfl ⟨_,_,rfl,tf.cell _ _ hR hC,by rw[qy];exact lf _ _,zAW ?_⟩);have tf2:=tf.more (q:=zCq z) hR hC;have tg2:=tg.other (n:=a+z.r.toNat*(w+2)+(z.c+1).toNat) (x:=((f z.r.toNat (z.c+1).toNat).map λq=>.dat (ratD q))++[.dat (ratD (zCq z))]) (by omega);have l2:(O.set (a+z.r.toNat*(w+2)+(z.c+1).toNat) (((f z.r.toNat (z.c+1).toNat).map λq=>.dat (ratD q))++[.dat (ratD (zCq z))])).length=O.length:=length_set;have o1:∀ m:Nat,m < a->(O.set (a+z.r.toNat*(w+2)+(z.c+1).toNat) (((f z.r.toNat (z.c+1).toNat).map λq=>.dat (ratD q))++[.dat (ratD (zCq z))]))[m]?=O[m]?:=λm hm=>getElem?_set_ne (by omega)
 have o2:∀ m:Nat,b+h*(w+2) < m->(O.set (a+z.r.toNat*(w+2)+(z.c+1).toNat) (((f z.r.toNat (z.c+1).toNat).map λq=>.dat (ratD q))++[.dat (ratD (zCq z))]))[m]?=O[m]?:=λm hm=>getElem?_set_ne (by omega)
 have go:∀ O4:Mem,O4.length=O.length->(∀ m:Nat,m < a->O4[m]?=O[m]?)->(∀ m:Nat,b+h*(w+2) < m->O4[m]?=O[m]?)->zBo O4 a w h (more f z.r.toNat (z.c+1).toNat (zCq z))->zBo O4 b w h g ->
   EvP (evSs' J Y (.cons (.app (.ix (.ix (.var 4) (.ix (.var 5) (.pur (.int 1)))) (.var 6)) (.pur (.call nr "right" (.cons (.var 5) .nil)))) .nil) ⟨[x0,x1,x2,some (.loc (a+h*(w+2))),some (.loc (b+h*(w+2))),some (.dat (pcD z)),some (.dat (.int (z.c+1)))],O4⟩) Q:=by
  intro O4 e1 e2 e3 tf2 tg2;refine zAB (zCP (m_ix (m_ix (zAO rfl (m_ix (zAO rfl (zAf rfl (zAN (zAo rfl ?_)))))))));refine zOO pc1 (zDE tg2.top (atT b) (zAO rfl (zDE (tg2.row _ hR) (atR b) ?_)));refine zAf (zAr (zAr (zAr (zAr (zAr (zCa rfl)))))) ?_;refine zAM er (zAD (zAH rfl (n_cl (zAe ?_))));refine hr z.c z.r z.p z.q _ _ hz.p hz.q (by omega) (by omega) ?_;refine n_cl (zAo rfl ⟨_,_,rfl,tg2.cell _ _ hR hC,by rw[qy];exact lg _ _,zAW (zAx ?_)⟩);refine hQ _ (by rw[length_set];exact e1) (λm hm=>?_) (λm hm=>?_) (tf2.other (by omega)) (tg2.more hR hC)
  .rw [getElem?_set_ne (by omega)];exact e2 m hm
  .rw [getElem?_set_ne (by omega)];exact e3 m hm
 exact go _ l2 o1 o2 tf2 tg2
def zGs (na nf nr nw ne:Nat):MT:=.cons (.setC 3 (tabE ne)) (.cons (.setC 4 (tabE ne)) (.cons (.for1 5 (.it (.pur (.call na "all_pieces" (.cons (.var 0) (.cons (.var 1) (.cons (.var 2) .nil)))))) (zPp nf nr)) (.cons (.ret (.comp 7 [] "row" (.rng (.var 1)) (.pur (.call nw "row_of_shares" (.cons (.ix (.var 3) (.var 7)) (.cons (.ix (.var 4) (.var 7)) .nil)))))) .nil)))
def rowZ (zs:List Pc)(w r:Nat):List Rat:=zMJ ((List.range (w+1)).map (fc zs r)) ((List.range (w+1)).map (gc zs r)) w
def zBW (zs:List Pc)(w:Nat)(k:Nat):Mem:=(List.range k).map λr=>(rowZ zs w r).map λq=>W.dat (ratD q)
def zLz (F:MF):Prop:=∀ (n w h:Nat) (rs:List (List Pt)) (x:W) (O:Mem) (Q:MR->Prop),FlB n w h rs->(allP w h rs).length<=5000->(allP w h rs).length*(24*n+101)<=4000000->drW O x=some (zBj rs) ->
 (∀ L:Mem,Q (.loc ((O++L).length+h),O++L++zBW (allP w h rs) w h++[news (O++L).length h]))->EvP (F [.dat (.int w),.dat (.int h),x] O) Q
theorem zPc (zs:List Pc):noLs (zs.map pcD)=true:=by
 induction zs with
 | nil=>rfl
 | cons z zs ih=>rw[map_cons,noLs,ih];rfl
theorem zMb (qs:List Rat):noLs (qs.map ratD)=true:=by
 induction qs with
 | nil=>rfl
 | cons q qs ih=>rw[map_cons,noLs,ih];rfl
theorem zK1 (hz:PcB n w h z):RB (24*n+100) (zCq z):=(zCt hz.p.y hz.q.y).mono (by omega)
theorem zHi (hz:PcB n w h z)(hw:w<=100):RB (24*n+100) (zC7 z):=by
 have c0:=hz.c0;have c1:=hz.c1;unfold zC7 zHj;split
 .exact zCx.mono (by omega)
 .have rc:RB 8 ((z.c+1:Int):Rat):=zD8 (zCY (k:=200) (by omega) (by decide)) (by decide);exact(zDf (zCt hz.p.y hz.q.y) (zCt rc (zOI hz.p.x hz.q.x))).mono (by omega)
theorem zTF (hz:∀ z∈zs,PcB n w h z)(r c:Nat):(fc zs r c).length<=zs.length/\∀ q∈fc zs r c,RB (24*n+100) q:=by
 refine⟨by unfold fc;rw[qy];exact length_filter_le _ _,λq hq=>?_⟩;obtain⟨z,m,rfl⟩:=mem_map.mp hq;exact zK1 (hz z (mem_filter.mp m).1)
theorem zS8 (hw:w<=100)(hz:∀ z∈zs,PcB n w h z)(r c:Nat):(gc zs r c).length<=zs.length/\∀ q∈gc zs r c,RB (24*n+100) q:=by
 refine⟨by unfold gc;rw[qy];exact length_filter_le _ _,λq hq=>?_⟩;obtain⟨z,m,rfl⟩:=mem_map.mp hq;exact zHi (hz z (mem_filter.mp m).1) hw
theorem zJU (ea:J.fns[na]?=some (("all_pieces":Str),Fa))(ef:J.fns[nf]?=some (("fall":Str),Ff))(er:J.fns[nr]?=some (("right":Str),Fr))(ew:J.fns[nw]?=some (("row_of_shares":Str),Fw))(ee:Y[ne]?=some (("empty_lists":Str),Fe))
  (ha:AllF Fa) (hf:zL1 Ff) (hr:zIM Fr) (hw:RowF Fw) (he:zIP Fe):zLz (zBL 3 7 (evSs' J Y (zGs na nf nr nw ne))):=λn w h rs x O Q fb zl zb dx hQ=>by
 have pcs:=zOi (n:=n) (w:=w) (h:=h) (rs:=rs) fb.w1 (by have:=fb.w2;omega) (by have:=fb.h2;omega) fb.r;have w2:=fb.w2;have h2:=fb.h2;generalize ez:allP w h rs=zs at zl zb hQ pcs;refine zDH rfl (by decide) ?_;unfold zGs;show EvP (evSs' J Y _ ⟨[some (.dat (.int w)),some (.dat (.int h)),some x,none,none,none,none],O⟩) _;refine zAB (zFI (zNu ee he w2 h2 λO8 g1 t1=>zAW ?_));(walk_at "s");refine zAB (zFI (zNu ee he w2 h2 λO3 g2 t2=>zAW ?_));(walk_at "s");have ta:=t1.app O3;have l12:(O++O8).length=O.length+h*(w+2)+1:=by rw[qQ,g1];omega
 rw[l12] at t2;rw[l12];have dx2:drW (O++O8++O3) x=some (zBj rs):=zNW (λm ws e=>zAa (zAa e)) dx;refine zAB (zCA (zBO (zAf (zCa (zCa (zQv dx2))) ?_)));refine zAM ea (zAD (zAH rfl (n_cl (zAD (zAH rfl (n_cl (zAD (zAH (d:=zBj rs) rfl (n_cl (zAe ?_)))))))))) ;refine ha n w h rs _ fb ?_;rw[ez];refine n_fr (zI5 (zPc zs) ⟨_,rfl,?_⟩);have lb:(O++O8++O3).length=O.length+h*(w+2)+1+h*(w+2)+1:=by rw[qQ,l12,g2];omega
 dsimp only;refine zDJ (s:=⟨_,_⟩) ((zs.map pcD).map .dat) (λj s=>∃ (o5 o6:Option W) (O1:Mem),s=⟨[some (.dat (.int w)),some (.dat (.int h)),some x,some (.loc (O.length+h*(w+2))),some (.loc (O.length+h*(w+2)+1+h*(w+2))),o5,o6],O1⟩/\O1.length=(O++O8++O3).length+1/\(∀ m:Nat,m < O.length->O1[m]?=O[m]?)/\O1[(O++O8++O3).length]?=some ((zs.map pcD).map .dat) /\
  zBo O1 O.length w h (fc (zs.take j))/\zBo O1 (O.length+h*(w+2)+1) w h (gc (zs.take j))) ?_ ?_ ?_ ⟨none,none,O++O8++O3++[(zs.map pcD).map .dat],rfl,by rw[qQ];rfl,?_,?_,?_,?_⟩
 .rintro j s ⟨o5,o6,O1,rfl,m1,m2,m3,m4,m5⟩;exact m3
 .rintro j y s ey ⟨o5,o6,O1,rfl,m1,m2,m3,m4,m5⟩;rw[map_map,List.getElem?_map] at ey;obtain⟨z,ez2,rfl⟩:=yq.mp ey;have hz:=pcs z (mem_of_getElem? ez2);have et:zs.take (j+1)=zs.take j++[z]:=by rw[take_add_one,ez2];rfl
  refine⟨_,rfl,?_⟩;dsimp only;(walk_at "s");have ll:∀ r c,(fc (zs.take j) r c).length<=10000/\(gc (zs.take j) r c).length<=10000:=λr c=>by
   have a:=(zTF (n:=n) (w:=w) (h:=h) (zs:=zs.take j) (λz hz=>pcs z (x8 hz)) r c).1;have b:=(zS8 (n:=n) (w:=w) (h:=h) (zs:=zs.take j) (by omega) (λz hz=>pcs z (x8 hz)) r c).1;rw[length_take] at a b;omega
  refine zKR ef er hf hr hz fb.b (by omega) m4 m5 (by omega) (λr c=>(ll r c).1) (λr c=>(ll r c).2) fun μ2 e1 e2 e3 t3 t4=>?_
  rw[<- zQW hz,<- et] at t3;rw[<- zQP hz,<- et] at t4;exact⟨_,_,μ2,rfl,by rw[e1];exact m1,λm hm=>by rw[e2 m hm];exact m2 m hm,by rw[e3 _ (by rw[lb];omega)];exact m3,t3,t4⟩
 .rintro s ⟨o5,o6,O1,rfl,m1,m2,m3,m4,m5⟩;have el:((zs.map pcD).map W.dat).length=zs.length:=by rw[qy,qy]
  rw[el,take_length] at m4 m5;refine zAW ?_;refine zAB (zB1 (zGJ (zDR (zAO (w:=.dat (.int h)) rfl ⟨(h:Int),rfl,by omega,?_⟩))));rw[toNat_natCast];obtain⟨y,s',N,e,⟨o,p1,p2,p3⟩,p4⟩:=zGb (t:=tgM 7) (e:=evM J Y (.pur (.call nw "row_of_shares" (.cons (.ix (.var 3) (.var 7)) (.cons (.ix (.var 4) (.var 7)) .nil))))) (src:=.items ((rngL 0 h).map .dat)) (s:=⟨mask none [] [some (.dat (.int w)),some (.dat (.int h)),some x,some (.loc (O.length+h*(w+2))),some (.loc (O.length+h*(w+2)+1+h*(w+2))),o5,o6]++[none],O1⟩) ((rngL 0 h).map .dat)
   (λj s d=>∃ o:Option W,s=⟨[some (.dat (.int w)),some (.dat (.int h)),some x,some (.loc (O.length+h*(w+2))),some (.loc (O.length+h*(w+2)+1+h*(w+2))),o5,o6,o],O1++zBW zs w j⟩/\d=news O1.length j/\j<=h) (λj s d _=>rfl) (λj y s d ey zz114=>by
    obtain⟨o,p1,p2,p3⟩:=zz114;subst p1 p2;have hj:j < h:=by
     have:=(zzg ey).1;rw[qy,zAt] at this;exact this
    have ey2:y=.dat (.int (j:Int)):=by
     unfold rngL at ey;rw[map_map,List.getElem?_map,getElem?_range hj] at ey;have:=(xj ey).symm;rw[this];simp
    subst ey2;have t5:=m4.app (zBW zs w j);have t6:=m5.app (zBW zs w j);have lr:(O1++zBW zs w j).length=O1.length+j:=by rw[qQ];unfold zBW;rw[qy,length_range]
    refine⟨by rw[zCE];omega,⟨[some (.dat (.int w)),some (.dat (.int h)),some x,some (.loc (O.length+h*(w+2))),some (.loc (O.length+h*(w+2)+1+h*(w+2))),o5,o6,some (.dat (.int (j:Int)))],O1++zBW zs w j⟩,(.loc (O1++zBW zs w j).length,(O1++zBW zs w j)++[((rowZ zs w j).map ratD).map .dat]),rfl,?_,some (.dat (.int (j:Int))),?_,?_,by omega⟩
    .refine (zAf (Q:=λr=>r=(W.loc (O1++zBW zs w j).length,(O1++zBW zs w j)++[((rowZ zs w j).map ratD).map .dat])) (zCa (zCa (zAr ((zLR (zNv t5)).trans (congrArg _ ((zLR (zNv t6)).trans (congrArg _ (zAr (zAr (zCa rfl))))))))) ) ?_).eq;refine zAM ew (zAD (zBY (zAH rfl (zAH rfl ?_))));refine zA9 (d:=zFO ((List.range (w+1)).map (fc zs j))) (zAn (by rw[List.getElem?_map,getElem?_range hj];rfl)) (n_cl (zAD (zBY (zAH rfl (zAH rfl ?_)))));refine zA9 (d:=zFO ((List.range (w+1)).map (gc zs j))) (zAn (by rw[List.getElem?_map,getElem?_range hj];rfl)) (n_cl (zAe ?_));refine hw _ _ w zs.length (24*n+100) _ (by simp) (by simp) w2 zl zb (λf hf=>?_) (λf hf=>?_) ?_
     .obtain ⟨c,_,rfl⟩:=mem_map.mp hf;exact zTF pcs j c
     .obtain ⟨c,_,rfl⟩:=mem_map.mp hf;exact zS8 (by omega) pcs j c
     .exact n_fr (zI5 (zMb _) rfl)
    .have:zBW zs w (j+1)=zBW zs w j++[((rowZ zs w j).map ratD).map .dat]:=by
      unfold zBW;rw[range_succ,xJ,map_map]
      rfl
     rw[this,q0]
    .rw [zDC,lr]) ⟨none,by unfold zBW;rw[List.range_zero,map_nil,append_nil];rfl,rfl,zero_le _⟩
  have lw:((rngL 0 h).map W.dat).length=h:=by rw[qy,zAt]
  rw[lw] at p1 p2;subst p1;have e2:y=(news O1.length h,O1++zBW zs w h):=Prod.ext p2 p4.symm;refine⟨y,N,e,by rw[p2,zCE];omega,?_⟩;rw[e2];have em:∃ L:Mem,O1=O++L:=by
   refine⟨O1.drop O.length,?_⟩;have:O=O1.take O.length:=by
    apply ext_getElem?;intro m;rw[List.getElem?_take];by_cases q:m < O.length
    .rw [if_pos q];exact(m2 m q).symm
    .rw [if_neg q,getElem?_eq_none (by omega)]
   exact(List.take_append_drop O.length O1).symm.trans (congrArg (λl=>l++O1.drop O.length) this.symm)
  obtain⟨L,rfl⟩:=em;have q:=hQ L;have lr:(O++L++zBW zs w h).length=(O++L).length+h:=by rw[qQ];unfold zBW;rw[qy,length_range]
  show KFM Q (.rt (.loc (O++L++zBW zs w h).length,_));rw[lr];exact q
 .intro m hm;rw[q0,q0,getElem?_append_left hm]
 .rw [getElem?_append_right (le_refl _),sub_self];rfl
 .exact ta.app _
 .exact t2.app _
theorem zJK {U:Type}(f g:U->Rat):∀ l:List U,DM.sumR (l.map λi=>f i+g i)=DM.sumR (l.map f)+DM.sumR (l.map g)
 | []=>by simp[DM.sumR,Rat.add_zero]
 | a::l=>by
  simp only[map_cons,DM.sumR,zJK f g l];grind
theorem zJJ (P:Prop)[Decidable P](m:Int)(v:Rat)(hm:-1<=m):∀ k:Nat,DM.sumR ((List.range k).map λ(c:Nat)=>if P/\m+1=(c:Int) then v else 0)=if P/\m+1 < (k:Int) then v else 0
 | 0=>by
  rw[if_neg (by omega)]
  rfl
 | k+1=>by
  rw[range_succ,xJ,DM.zDw,zJJ P m v hm k];simp only[map_cons,map_nil,DM.sumR,Rat.add_zero];by_cases hP:P
  .by_cases h1:m+1 < (k:Int)
   .rw [if_pos ⟨hP,h1⟩,if_neg (by omega),if_pos ⟨hP,by omega⟩,Rat.add_zero]
   .by_cases h2:m+1=(k:Int)
    .rw [if_neg (by omega),if_pos ⟨hP,h2⟩,if_pos ⟨hP,by omega⟩,Rat.zero_add]
    .rw [if_neg (by omega),if_neg (by omega),if_neg (by omega),Rat.add_zero]
  .rw [if_neg (λq=>hP q.1),if_neg (λq=>hP q.1),if_neg (λq=>hP q.1),Rat.add_zero]
theorem zQX (z:Pc)(zs:List Pc)(r c:Nat):DM.sumR (fc (z::zs) r c)=(if z.r=(r:Int)/\z.c+1=(c:Int) then zCq z else 0)+DM.sumR (fc zs r c):=by
 unfold fc;rw[filter_cons];by_cases q:z.r=(r:Int)/\z.c+1=(c:Int)
 .rw [if_pos q,if_pos (by simp only[x9,qj];exact q),map_cons,DM.sumR]
 .rw [if_neg q,if_neg (by simp only[x9,qj];exact q),Rat.zero_add]
theorem zQQ (z:Pc)(zs:List Pc)(r c:Nat):DM.sumR (gc (z::zs) r c)=(if z.r=(r:Int)/\z.c+1=(c:Int) then zC7 z else 0)+DM.sumR (gc zs r c):=by
 unfold gc;rw[filter_cons];by_cases q:z.r=(r:Int)/\z.c+1=(c:Int)
 .rw [if_pos q,if_pos (by simp only[x9,qj];exact q),map_cons,DM.sumR]
 .rw [if_neg q,if_neg (by simp only[x9,qj];exact q),Rat.zero_add]
theorem zF5 (r c:Nat):∀ zs:List Pc,(∀ z∈zs,-1<=z.c)->DM.sumR ((List.range (c+1)).map λc'=>DM.sumR (fc zs r c'))+DM.sumR (gc zs r (c+1))=dueZ zs c r
 | [],_=>by
  have:∀ k:Nat,DM.sumR ((List.range k).map λc'=>DM.sumR (fc [] r c'))=0:=λk=>by
   induction k with
   | zero=>rfl
   | succ k ih=>rw[range_succ,xJ,DM.zDw,ih];simp[fc,DM.sumR,Rat.add_zero]
  rw[this];simp[gc,dueZ,DM.sumR,Rat.add_zero]
 | z::zs,hz=>by
  have ih:=zF5 r c zs λy hy=>hz y (qJ _ hy)
  have hc:=hz z q8;have e1:((List.range (c+1)).map λc'=>DM.sumR (fc (z::zs) r c'))=(List.range (c+1)).map λ(c':Nat)=>(if z.r=(r:Int)/\z.c+1=(c':Int) then zCq z else 0)+DM.sumR (fc zs r c'):=map_congr_left λc' _=>zQX z zs r c'
  rw[e1,zJK,zJJ (z.r=(r:Int)) z.c (zCq z) hc,zQQ];have ed:dueZ (z::zs) c r=dz c r z+dueZ zs c r:=by unfold dueZ;rw[map_cons,DM.sumR]
  rw[ed,<- ih];unfold dz;have i1:(z.r=(r:Int)/\z.c+1 < ((c+1:Nat):Int))<->(z.r=(r:Int)/\z.c < (c:Int)):=by omega
  have i2:(z.r=(r:Int)/\z.c+1=((c+1:Nat):Int))<->(z.r=(r:Int)/\z.c=(c:Int)):=by omega
  simp only[i1,i2];grind
theorem zJV (hz:∀ z∈zs,-1<=z.c)(hc:c < w):(rowZ zs w r)[c]?=some (dueZ zs c r):=by
 unfold rowZ zMJ;rw[List.getElem?_map,getElem?_range hc,Option.map_some,<- zF5 r c zs hz];congr 1;congr 1
 .unfold zDK;rw[<- List.map_take,List.take_range,Nat.min_eq_left (by omega),map_map]
  rfl
 .rw [getD_eq_getElem?_getD,List.getElem?_map,getElem?_range (by omega)]
  rfl
theorem zJZ (zs:List Pc)(w r:Nat):(rowZ zs w r).length=w:=by unfold rowZ zMJ;rw[qy,length_range]
abbrev Lp:=List (Nat×List D)
structure Ll (O:Mem)(n:Nat)(l:Lp):Prop where
 top:O[n]?=some (l.map λp=>.loc p.1)
 row:∀ p∈l,O[p.1]?=some (p.2.map .dat)
abbrev llD (l:Lp):D:=.lst (l.map λp=>.lst p.2)
theorem Ll.dr (e:Ll O n l):drW O (.loc n)=some (llD l):=by
 unfold drW;rw[sbW];exact zGW e.top (zFM (λp:Nat×List D=>p.1) (λp=>.lst p.2) l λp hp=>zLP (e.row p hp))
theorem Ll.keep (e:Ll O n l)(k1:O1[n]?=O[n]?)(k2:∀ p∈l,O1[p.1]?=O[p.1]?):Ll O1 n l:=⟨by rw[k1];exact e.top,λp hp=>by rw[k2 p hp];exact e.row p hp⟩
theorem Ll.lt (e:Ll O n l):n < O.length/\∀ p∈l,p.1 < O.length:=⟨(zzg e.top).1,λp hp=>(zzg (e.row p hp)).1⟩
theorem zAG {i:Nat}(e:G[i]?=some (some w))(h:drW O w=some d):(drS O G)[i]?=some (some (d,false)):=by
 unfold drS;rw[List.getElem?_map,e,Option.map_some,qx,h]
 rfl
theorem zAJ :drW O (.dat d)=some d:=by unfold drW;rw[sbW]
theorem zD3 (e:O[n]?=some (ds.map .dat)):drW O (.loc n)=some (.lst ds):=by unfold drW;rw[sbW];exact zLP e
theorem zG3 (ps:List Pt):noLs (ps.map ptD)=true:=by
 induction ps with
 | nil=>rfl
 | cons p ps ih =>
  show (noL (ptD p)&&noLs (ps.map ptD))=true;rw[ih]
  rfl
def lpT (b:Nat)(zs:List Pc)(w h:Nat):Lp:=(List.range h).map λr=>(b+r,(rowZ zs w r).map ratD)
theorem zKQ (hp:p∈lpT b zs w h):∃ r,r < h/\p=(b+r,(rowZ zs w r).map ratD):=by
 unfold lpT at hp;obtain⟨r,hr,rfl⟩:=mem_map.mp hp;exact⟨r,mem_range.mp hr,rfl⟩
theorem zD6 (zs:List Pc)(w h:Nat):(zBW zs w h).length=h:=by unfold zBW;rw[qy,length_range]
theorem zSN (O:Mem)(zs:List Pc)(w h:Nat):Ll (O++zBW zs w h++[news O.length h]) (O.length+h) (lpT O.length zs w h):=by
 refine⟨?_,λp hp=>?_⟩
 .rw [getElem?_append_right (by rw[qQ,zD6];omega),qQ,zD6,sub_self];unfold lpT news;rw[map_map]
  rfl
 .obtain ⟨r,hr,rfl⟩:=zKQ hp;dsimp only;rw[getElem?_append_left (by rw[qQ,zD6];omega),getElem?_append_right (by omega),Nat.add_sub_cancel_left];unfold zBW;rw[List.getElem?_map,getElem?_range hr,map_map]
  rfl
end DL
end
open PySem L2 DL
local macro_rules | `(tactic| walk_at "f")=>`(tactic| exact ⟨rfl,rfl,rfl,by decide +kernel,rfl,by decide +kernel,by decide +kernel⟩)
section
namespace Q
open PySem L2 DL
def top (i:Nat):Stmt:=PySem.Challenge.pw_coverfill_k31_leaves.main.body.getD i (.Pass ⟨0,0,0,0⟩)
noncomputable def bs:List Str:=["abs","len","range","list","tuple","zip","reversed","max","isinstance","bool","int"]
def N0:List Str:=["one","other","rest"]
noncomputable def b0:S:=zPk
theorem ck0:dB (top 8) 2 N0 bs b0=true:=by decide +kernel
def N1:List Str:=["top","bottom","measure"]
noncomputable def b1:S:=.cons (.ife (.cmp .Eq (.var 1) (.int 0)) (.cons (.rse "NoRatio" (.str "the bottom of a ratio is not 0")) .nil) .nil) (.cons (.set 2 (.call 0 "common_measure" (.cons (.abs (.var 0)) (.cons (.abs (.var 1)) .nil)))) (.cons (.ife (.cmp .Lt (.var 1) (.int 0)) (.cons (.set 2 (.neg (.var 2))) .nil) .nil) (.cons (.ret (.tup (.cons (.bin .FloorDiv (.var 0) (.var 2)) (.cons (.bin .FloorDiv (.var 1) (.var 2)) .nil)))) .nil)))
theorem ck1:dB (top 9) 2 N1 bs b1=true:=by decide +kernel
def N2:List Str:=["one","other"]
noncomputable def b2:S:=zPD "ratio" 1
theorem ck2:dB (top 10) 2 N2 bs b2=true:=by decide +kernel
def N3:List Str:=["one","other"]
noncomputable def b3:S:=zEr "ratio" 1
theorem ck3:dB (top 11) 2 N3 bs b3=true:=by decide +kernel
def N4:List Str:=["one","other"]
noncomputable def b4:S:=zEi "ratio" 1
theorem ck4:dB (top 12) 2 N4 bs b4=true:=by decide +kernel
def N5:List Str:=["one","other"]
noncomputable def b5:S:=zGz "ratio" 1
theorem ck5:dB (top 13) 2 N5 bs b5=true:=by decide +kernel
def N6:List Str:=["some","added"]
noncomputable def b6:S:=zPf 2
theorem ck6:dB (top 14) 1 N6 bs b6=true:=by decide +kernel
def N7:List Str:=["some","sums"]
noncomputable def b7:S:=zJE 6 0
theorem ck7:dB (top 15) 1 N7 bs b7=true:=by decide +kernel
def N8:List Str:=["one","other"]
noncomputable def b8:S:=zJC
theorem ck8:dB (top 16) 2 N8 bs b8=true:=by decide +kernel
def N9:List Str:=["one","low","high"]
noncomputable def b9:S:=.cons (.ife (.call 8 "under" (.cons (.var 0) (.cons (.var 1) .nil))) (.cons (.ret (.var 1)) .nil) .nil) (.cons (.ife (.call 8 "under" (.cons (.var 2) (.cons (.var 0) .nil))) (.cons (.ret (.var 2)) .nil) .nil) (.cons (.ret (.var 0)) .nil))
theorem ck9:dB (top 17) 3 N9 bs b9=true:=by decide +kernel
def N10:List Str:=["one"]
noncomputable def b10:S:=wpB
theorem ck10:dB (top 18) 1 N10 bs b10=true:=by decide +kernel
def N11:List Str:=["share"]
noncomputable def b11:S:=.cons (.ret (.call 9 "between" (.cons (.var 0) (.cons (.glob 0 "NOUGHT") (.cons (.glob 2 "ONE") .nil))))) .nil
theorem ck11:dB (top 20) 1 N11 bs b11=true:=by decide +kernel
def N12:List Str:=["part"]
noncomputable def b12:S:=zO3 3 2
theorem ck12:dB (top 22) 1 N12 bs b12=true:=by decide +kernel
def N13:List Str:=["parts","by"]
noncomputable def b13:S:=zPh 4
theorem ck13:dB (top 23) 2 N13 bs b13=true:=by decide +kernel
def N14:List Str:=["s","ink"]
noncomputable def b14:S:=inkB 12 13
theorem ck14:dB (top 24) 2 N14 bs b14=true:=by decide +kernel
def N15:List Str:=["s"]
noncomputable def b15:S:=rubB 12 0
theorem ck15:dB (top 25) 1 N15 bs b15=true:=by decide +kernel
def N16:List Str:=["ring"]
noncomputable def b16:S:=zJT
theorem ck16:dB (top 27) 1 N16 bs b16=true:=by decide +kernel
def N17:List Str:=["start","end","last"]
def P17:List Str:=["start","end","last"]
noncomputable def b17:S:=zKA 8 17
theorem sc17:zAi N17 P17 (zAA (top 29)):=by (walk_at "f")
theorem ck17:cSs (zAA (top 29)) N17 bs b17 (zAK (top 29))=true:=by decide +kernel
noncomputable def N18:List Str:=["numbers","start","end","rest","rest_end","slope"]
noncomputable def b18:S:=zJf 5 3 2 4
theorem ck18:dB (top 30) 5 N18 bs b18=true:=by decide +kernel
noncomputable def N19:List Str:=["side","width","start","end","numbers","heights"]
noncomputable def b19:S:=upcB 17 18
theorem ck19:dB (top 31) 2 N19 bs b19=true:=by decide +kernel
noncomputable def N20:List Str:=["side","height","start","end","numbers","widths"]
noncomputable def b20:S:=lvcB 17 18
theorem ck20:dB (top 32) 2 N20 bs b20=true:=by decide +kernel
def N21:List Str:=["one","other","to_the_right"]
noncomputable def b21:S:=zLp 8
theorem ck21:dB (top 33) 3 N21 bs b21=true:=by decide +kernel
noncomputable def N22:List Str:=["some","others","to_the_right","points","k","point"]
noncomputable def b22:S:=.cons (.set 3 (.lst .nil)) (.cons (.set 4 (.int 0)) (.cons (.for1 5 (.it (.var 0)) (.cons (.whl (.andl (.cons (.cmp .Lt (.var 4) (.len (.var 1))) (.cons (.call 21 "comes_ahead" (.cons (.ix (.var 1) (.var 4)) (.cons (.var 5) (.cons (.var 2) .nil)))) .nil))) (.cons (.app 3 (.ix (.var 1) (.var 4))) (.cons (.aug .Add 4 (.int 1)) .nil))) (.cons (.ife (.andl (.cons (.cmp .Lt (.var 4) (.len (.var 1))) (.cons (.cmp .Eq (.ix (.var 1) (.var 4)) (.var 5)) .nil))) (.cons (.aug .Add 4 (.int 1)) .nil) .nil) (.cons (.app 3 (.var 5)) .nil)))) (.cons (.ret (.bin .Add (.var 3) (.sl (.var 1) (.cons (.var 4) .nil) .nil))) .nil)))
theorem ck22:dB (top 34) 3 N22 bs b22=true:=by decide +kernel
noncomputable def N23:List Str:=["width","height","side","start","end","crossed"]
noncomputable def b23:S:=zJN 22 19 20 8
theorem ck23:dB (top 35) 3 N23 bs b23=true:=by decide +kernel
def N24:List Str:=["one","other"]
noncomputable def b24:S:=midB 4 2 1
theorem ck24:dB (top 36) 2 N24 bs b24=true:=by decide +kernel
def N25:List Str:=["start","end","column","row"]
noncomputable def b25:S:=pcB 10 24
theorem ck25:dB (top 37) 2 N25 bs b25=true:=by decide +kernel
def N26:List Str:=["width","height","piece"]
noncomputable def b26:S:=onB
theorem ck26:dB (top 38) 3 N26 bs b26=true:=by decide +kernel
noncomputable def N27:List Str:=["width","height","side","points","parts"]
noncomputable def b27:S:=zGy 23 25 26
theorem ck27:dB (top 39) 3 N27 bs b27=true:=by decide +kernel
def N28:List Str:=["piece"]
noncomputable def b28:S:=zQZ 3
theorem ck28:dB (top 40) 1 N28 bs b28=true:=by decide +kernel
def N29:List Str:=["piece","column"]
noncomputable def b29:S:=zJe 0 4 28 3 24
theorem ck29:dB (top 41) 1 N29 bs b29=true:=by decide +kernel
def N30:List Str:=["count"]
def mb30:MT:=zLN
theorem zT8:dM (top 43) 1 N30 bs mb30=true:=by decide +kernel
def b30:S:=.cons (.ret (.comp1 1 [] "k" (.r1 (.var 0)) .nil (.lst .nil))) .nil
theorem ck30:dB (top 43) 1 N30 bs b30=true:=by decide +kernel
noncomputable def N31:List Str:=["width","height","shape","found","ring","side"]
noncomputable def b31:S:=allB 16 27
theorem ck31:dB (top 44) 3 N31 bs b31=true:=by decide +kernel
noncomputable def N32:List Str:=["falls","rights","told","fallen","column"]
noncomputable def b32:S:=rowB 2 7 0
theorem ck32:dB (top 45) 2 N32 bs b32=true:=by decide +kernel
noncomputable def N33:List Str:=["width","height","shape","falls","rights","piece","place"]
noncomputable def mb33:MT:=zGs 31 28 29 32 0
theorem zSH:dM (top 46) 3 N33 bs mb33=true:=by decide +kernel
def N34:List Str:=["shape"]
noncomputable def mb34:MT:=.cons (.ret (.comp 1 [] "ring" (.it (.var 0)) (.pur (.list (.var 1))))) .nil
theorem zSG:dM (top 48) 1 N34 bs mb34=true:=by decide +kernel
def N35:List Str:=["strength"]
def b35:S:=.cons (.ret (.ite (.cmp .Is (.var 0) .non) (.glob 2 "ONE") (.var 0))) .nil
theorem ck35:dB (top 49) 1 N35 bs b35=true:=by decide +kernel
def N36:List Str:=["rows","change"]
noncomputable def mb36:MT:=.cons (.ret (.comp 2 [] "row" (.it (.var 0)) (.comp 3 [] "one" (.it (.var 2)) (.pur (.callv 1 (.var 3)))))) .nil
theorem zSF:dM (top 50) 2 N36 bs mb36=true:=by decide +kernel
def N37:List Str:=["width","height","shape"]
noncomputable def mb37:MT:=.cons (.ret (.call 3 "each_changed" (.cons (.call 1 "shares" (.cons (.var 0) (.cons (.var 1) (.cons (.var 2) .nil)))) (.cons (.pur (.glob 3 "cover")) .nil)))) .nil
theorem zSE:dM (top 51) 3 N37 bs mb37=true:=by decide +kernel
def N38:List Str:=["width","height","shape","strength"]
def P38:List Str:=["width","height","shape","strength"]
theorem sc38:zAi N38 P38 (zAA (top 52)):=by (walk_at "f")
def N39:List Str:=["_law_script","_law_k","_law_seed","_law_some"]
noncomputable def b39:S:=zQx
theorem ck39:dB (top 58) 2 N39 bs b39=true:=by decide +kernel
def N40:List Str:=["_law_found"]
noncomputable def b40:S:=zI9
theorem ck40:dB (top 59) 1 N40 bs b40=true:=by decide +kernel
def N41:List Str:=["_law_cell_here","_law_k"]
noncomputable def b41:S:=zGq
theorem ck41:dB (top 60) 2 N41 bs b41=true:=by decide +kernel
noncomputable def N42:List Str:=["_law_top","_law_bottom","_law_one","_law_other","_law_rest"]
noncomputable def b42:S:=lowB
theorem ck42:dB (top 61) 2 N42 bs b42=true:=by decide +kernel
def N43:List Str:=["_law_one","_law_other"]
noncomputable def b43:S:=zEr "_law_low" 42
theorem ck43:dB (top 63) 2 N43 bs b43=true:=by decide +kernel
def N44:List Str:=["_law_one","_law_other"]
noncomputable def b44:S:=zEi "_law_low" 42
theorem ck44:dB (top 64) 2 N44 bs b44=true:=by decide +kernel
def N45:List Str:=["_law_found","_law_due","_law_part_here","_law_number"]
noncomputable def b45:S:=zKz 40
theorem ck45:dB (top 65) 2 N45 bs b45=true:=by decide +kernel
def N46:List Str:=["_law_cell_here","_law_bottom","_law_rest","_law_way"]
noncomputable def b46:S:=zGR 42
theorem ck46:dB (top 66) 1 N46 bs b46=true:=by decide +kernel
def N47:List Str:=["_law_s","_law_ink_here","_law_parts","_law_part_here"]
noncomputable def b47:S:=.cons (.set 2 (.lst (.cons (.call 43 "_law_minus" (.cons (.tup (.cons (.int 1) (.cons (.int 1) .nil))) (.cons (.var 0) .nil))) (.cons (.var 0) .nil)))) (.cons (.for1 3 (.it (.var 1)) (.cons (.app 2 (.call 44 "_law_times" (.cons (.var 0) (.cons (.tup (.cons (.var 3) (.cons (.int 1) .nil))) .nil)))) .nil)) (.cons (.ret (.tupl (.var 2))) .nil))
theorem ck47:dB (top 67) 2 N47 bs b47=true:=by decide +kernel
def N48:List Str:=["_law_some","_law_most","_law_bottom"]
noncomputable def b48:S:=.cons (.set 2 (.ix (.lst (.cons (.int 1) (.cons (.int 2) (.cons (.int 4) (.cons (.int 3) .nil))))) (.bin .Mod (.var 0) (.int 4)))) (.frz 2 (.cons (.ret (.call 42 "_law_low" (.cons (.bin .Sub (.bin .Mod (.bin .FloorDiv (.var 0) (.int 4)) (.bin .Add (.bin .Mult (.var 2) (.bin .Add (.var 1) (.int 2))) (.int 1))) (.var 2)) (.cons (.var 2) .nil)))) .nil))
theorem ck48:dB (top 68) 2 N48 bs b48=true:=by decide +kernel
noncomputable def N49:List Str:=["_law_parts","_law_width","_law_height","_law_left","_law_low_here","_law_far","_law_high"]
noncomputable def b49:S:=.cons (.set 3 (.bin .Sub (.bin .Mod (.ix (.var 0) (.int 0)) (.bin .Add (.var 1) (.int 1))) (.int 1))) (.cons (.set 4 (.bin .Sub (.bin .Mod (.ix (.var 0) (.int 1)) (.bin .Add (.var 2) (.int 1))) (.int 1))) (.cons (.set 5 (.bin .Add (.bin .Add (.var 3) (.int 1)) (.bin .Mod (.ix (.var 0) (.int 2)) (.bin .Add (.var 1) (.int 1))))) (.cons (.set 6 (.bin .Add (.bin .Add (.var 4) (.int 1)) (.bin .Mod (.ix (.var 0) (.int 3)) (.bin .Add (.var 2) (.int 1))))) (.cons (.ret (.lst (.cons (.tup (.cons (.tup (.cons (.var 3) (.cons (.int 1) .nil))) (.cons (.tup (.cons (.var 4) (.cons (.int 1) .nil))) .nil))) (.cons (.tup (.cons (.tup (.cons (.var 5) (.cons (.int 1) .nil))) (.cons (.tup (.cons (.var 4) (.cons (.int 1) .nil))) .nil))) (.cons (.tup (.cons (.tup (.cons (.var 5) (.cons (.int 1) .nil))) (.cons (.tup (.cons (.var 6) (.cons (.int 1) .nil))) .nil))) (.cons (.tup (.cons (.tup (.cons (.var 3) (.cons (.int 1) .nil))) (.cons (.tup (.cons (.var 6) (.cons (.int 1) .nil))) .nil))) .nil)))))) .nil))))
theorem ck49:dB (top 69) 3 N49 bs b49=true:=by decide +kernel
noncomputable def N50:List Str:=["_law_cell_here","_law_width","_law_height","_law_some","_law_shape_here","_law_ring","_law_parts","_law_k","_law_points"]
noncomputable def mb50:MT:=.cons (.set 3 (.pur (.bin .Add (.bin .Mod (.var 0) (.int 2147483646)) (.int 1)))) (.cons (.set 4 (.lst .nil)) (.cons (.for1 5 (.rng (.ix (.pur (.lst (.cons (.int 1) (.cons (.int 1) (.cons (.int 2) (.cons (.int 1) (.cons (.int 0) (.cons (.int 1) (.cons (.int 2) (.cons (.int 1) .nil)))))))))) (.pur (.bin .Mod (.var 0) (.int 8))))) (.cons (.set 6 (.lst .nil)) (.cons (.for1 7 (.rng (.pur (.int 9))) (.cons (.set 3 (.pur (.bin .Mod (.bin .Mult (.var 3) (.int 48271)) (.int 2147483647)))) (.cons (.app (.var 6) (.pur (.bin .FloorDiv (.var 3) (.int 11)))) .nil))) (.cons (.ife (.pur (.cmp .Eq (.bin .Mod (.bin .FloorDiv (.var 0) (.int 8)) (.int 3)) (.int 0))) (.cons (.app (.var 4) (.pur (.call 49 "_law_box" (.cons (.var 6) (.cons (.var 1) (.cons (.var 2) .nil)))))) .nil) (.cons (.set 8 (.lst .nil)) (.cons (.for1 7 (.rng (.pur (.bin .Add (.int 3) (.bin .Mod (.ix (.var 6) (.int 8)) (.int 2))))) (.cons (.app (.var 8) (.pur (.tup (.cons (.call 48 "_law_at" (.cons (.ix (.var 6) (.bin .Mult (.int 2) (.var 7))) (.cons (.var 1) .nil))) (.cons (.call 48 "_law_at" (.cons (.ix (.var 6) (.bin .Add (.bin .Mult (.int 2) (.var 7)) (.int 1))) (.cons (.var 2) .nil))) .nil))))) .nil)) (.cons (.app (.var 4) (.var 8)) .nil)))) .nil)))) (.cons (.ret (.var 4)) .nil)))
theorem zSD:dM (top 70) 3 N50 bs mb50=true:=by decide +kernel
noncomputable def N51:List Str:=["_law_width","_law_height","_law_shape_here","_law_rows","_law_line","_law_row","_law_share"]
noncomputable def mb51:MT:=.cons (.set 3 (.lst .nil)) (.cons (.for1 4 (.it (.call 1 "shares" (.cons (.var 0) (.cons (.var 1) (.cons (.comp 7 [] "_law_ring" (.it (.var 2)) (.pur (.list (.var 7)))) .nil))))) (.cons (.set 5 (.lst .nil)) (.cons (.for1 6 (.it (.var 4)) (.cons (.ife (.pur (.cmp .Lt (.ix (.var 6) (.int 0)) (.int 0))) (.cons (.set 6 (.pur (.tup (.cons (.int 0) (.cons (.int 1) .nil))))) .nil) .nil) (.cons (.ife (.pur (.cmp .Gt (.ix (.var 6) (.int 0)) (.ix (.var 6) (.int 1)))) (.cons (.set 6 (.pur (.tup (.cons (.int 1) (.cons (.int 1) .nil))))) .nil) .nil) (.cons (.app (.var 5) (.var 6)) .nil)))) (.cons (.app (.var 3) (.var 5)) .nil)))) (.cons (.ret (.var 3)) .nil))
theorem zSC:dM (top 71) 3 N51 bs mb51=true:=by decide +kernel
def N52:List Str:=["_law_found","_law_due","_law_k","_law_j"]
noncomputable def b52:S:=.cons (.ife (.orl (.cons (.not (.isi .list (.var 0))) (.cons (.cmp .NotEq (.len (.var 0)) (.len (.var 1))) .nil))) (.cons (.ret (.bl false)) .nil) .nil) (.cons (.for1 2 (.r1 (.len (.var 1))) (.cons (.ife (.orl (.cons (.not (.isi .list (.ix (.var 0) (.var 2)))) (.cons (.cmp .NotEq (.len (.ix (.var 0) (.var 2))) (.len (.ix (.var 1) (.var 2)))) .nil))) (.cons (.ret (.bl false)) .nil) .nil) (.cons (.for1 3 (.r1 (.len (.ix (.var 1) (.var 2)))) (.cons (.ife (.not (.call 45 "_law_like" (.cons (.ix (.ix (.var 0) (.var 2)) (.var 3)) (.cons (.ix (.ix (.var 1) (.var 2)) (.var 3)) .nil)))) (.cons (.ret (.bl false)) .nil) .nil) .nil)) .nil))) (.cons (.ret (.bl true)) .nil))
theorem ck52:dB (top 72) 2 N52 bs b52=true:=by decide +kernel
def N53:List Str:=["_law_rows","_law_ink_here","_law_t"]
noncomputable def mb53:MT:=.cons (.ret (.comp 3 [] "_law_row" (.it (.var 0)) (.comp 4 [] "_law_s" (.it (.var 3)) (.pur (.call 47 "_law_ink_film" (.cons (.call 44 "_law_times" (.cons (.var 4) (.cons (.var 2) .nil))) (.cons (.var 1) .nil))))))) .nil
theorem zSB:dM (top 73) 3 N53 bs mb53=true:=by decide +kernel
noncomputable def N54:List Str:=["_law_rows","_law_t","_law_come","_law_row","_law_less"]
noncomputable def mb54:MT:=.cons (.set 2 (.lst .nil)) (.cons (.for1 3 (.it (.var 0)) (.cons (.setC 4 (.comp 5 [] "_law_s" (.it (.var 3)) (.pur (.call 43 "_law_minus" (.cons (.tup (.cons (.int 1) (.cons (.int 1) .nil))) (.cons (.call 44 "_law_times" (.cons (.var 5) (.cons (.var 1) .nil))) .nil)))))) (.cons (.app (.var 2) (.comp 5 [] "_law_k" (.it (.var 4)) (.pur (.tup (.cons (.var 5) (.cons (.tup (.cons (.int 0) (.cons (.int 1) .nil))) (.cons (.tup (.cons (.int 0) (.cons (.int 1) .nil))) (.cons (.tup (.cons (.int 0) (.cons (.int 1) .nil))) (.cons (.tup (.cons (.int 0) (.cons (.int 1) .nil))) .nil))))))))) .nil))) (.cons (.ret (.var 2)) .nil))
theorem zSA:dM (top 74) 2 N54 bs mb54=true:=by decide +kernel
def N55:List Str:=["_law_cell_here"]
noncomputable def b55:S:=.cons (.ret (.tup (.cons (.bin .Mod (.var 0) (.int 256)) (.cons (.ix (.lst (.cons (.int 255) (.cons (.int 0) (.cons (.bin .Mod (.bin .FloorDiv (.var 0) (.int 3)) (.int 256)) .nil)))) (.bin .Mod (.bin .FloorDiv (.var 0) (.int 256)) (.int 3))) (.cons (.bin .Mod (.bin .FloorDiv (.var 0) (.int 7)) (.int 256)) .nil))))) .nil
theorem ck55:dB (top 75) 1 N55 bs b55=true:=by decide +kernel
noncomputable def N56:List Str:=["_law_layer","_law_due","_law_width","_law_height","_law_found"]
noncomputable def mb56:MT:=.cons (.set 4 (.mth [("Fill",8),("Rub",9)] "films" (.var 0) (.cons (.var 2) (.cons (.var 3) .nil)))) (.cons (.ife (.pur (.orl (.cons (.not (.iso "Layer" (.var 0))) (.cons (.not (.call 52 "_law_rows_good" (.cons (.var 4) (.cons (.var 1) .nil)))) .nil)))) (.cons (.ret (.pur (.bl false))) .nil) .nil) (.cons (.clr (.ix (.var 4) (.pur (.int 0)))) (.cons (.app (.var 4) (.lst .nil)) (.cons (.ret (.pur (.bl true))) .nil))))
theorem zR9:dM (top 76) 4 N56 bs mb56=true:=by decide +kernel
noncomputable def N57:List Str:=["_law_width","_law_height","_law_shape_here","_law_ink_here","_law_t","_law_handed","_law_layers","_law_size","_law_rows"]
noncomputable def mb57:MT:=.cons (.setC 5 (.comp 9 [] "_law_ring" (.it (.var 2)) (.pur (.list (.var 9))))) (.cons (.ife (.pur (.cmp .Is (.var 4) .non)) (.cons (.set 6 (.lst (.cons (.mk 6 "Fill" true (.cons (.var 5) (.cons (.var 3) .nil))) (.cons (.mk 7 "Rub" true (.cons (.var 5) .nil)) .nil)))) (.cons (.set 4 (.pur (.tup (.cons (.int 1) (.cons (.int 1) .nil))))) .nil)) (.cons (.set 6 (.lst (.cons (.mk 6 "Fill" false (.cons (.var 5) (.cons (.var 3) (.cons (.var 4) .nil)))) (.cons (.mkk 7 "Rub" (.cons (.var 5) .nil) (.var 4)) .nil)))) .nil)) (.cons (.ife (.pur (.cmp .NotEq (.var 5) (.var 2))) (.cons (.ret (.pur (.bl false))) .nil) .nil) (.cons (.app (.var 5) (.lst (.cons (.pur (.tup (.cons (.tup (.cons (.int 0) (.cons (.int 1) .nil))) (.cons (.tup (.cons (.int 0) (.cons (.int 1) .nil))) .nil)))) (.cons (.pur (.tup (.cons (.tup (.cons (.int 9) (.cons (.int 1) .nil))) (.cons (.tup (.cons (.int 0) (.cons (.int 1) .nil))) .nil)))) (.cons (.pur (.tup (.cons (.tup (.cons (.int 9) (.cons (.int 1) .nil))) (.cons (.tup (.cons (.int 9) (.cons (.int 1) .nil))) .nil)))) .nil))))) (.cons (.app (.ix (.var 5) (.pur (.int 0))) (.pur (.tup (.cons (.tup (.cons (.int 5) (.cons (.int 1) .nil))) (.cons (.tup (.cons (.int 7) (.cons (.int 1) .nil))) .nil))))) (.cons (.for1 7 (.it (.lst (.cons (.pur (.tup (.cons (.var 0) (.cons (.var 1) .nil)))) (.cons (.pur (.tup (.cons (.bin .Add (.var 1) (.int 1)) (.cons (.var 0) .nil)))) (.cons (.pur (.tup (.cons (.var 0) (.cons (.var 1) .nil)))) .nil))))) (.cons (.set 8 (.call 11 "_law_covers" (.cons (.ix (.var 7) (.pur (.int 0))) (.cons (.ix (.var 7) (.pur (.int 1))) (.cons (.var 2) .nil))))) (.cons (.ife (.not (.call 14 "_law_spoilt" (.cons (.ix (.var 6) (.pur (.int 0))) (.cons (.call 12 "_law_inked" (.cons (.var 8) (.cons (.var 3) (.cons (.var 4) .nil)))) (.cons (.ix (.var 7) (.pur (.int 0))) (.cons (.ix (.var 7) (.pur (.int 1))) .nil)))))) (.cons (.ret (.pur (.bl false))) .nil) .nil) (.cons (.ife (.not (.call 14 "_law_spoilt" (.cons (.ix (.var 6) (.pur (.int 1))) (.cons (.call 13 "_law_rubbed" (.cons (.var 8) (.cons (.var 4) .nil))) (.cons (.ix (.var 7) (.pur (.int 0))) (.cons (.ix (.var 7) (.pur (.int 1))) .nil)))))) (.cons (.ret (.pur (.bl false))) .nil) .nil) .nil)))) (.cons (.ret (.pur (.bl true))) .nil))))))
theorem zR8:dM (top 77) 5 N57 bs mb57=true:=by decide +kernel
noncomputable def N58:List Str:=["_law_script","_law_width","_law_height","_law_k","_law_cell_here","_law_shape_here","_law_t"]
def P58:List Str:=["_law_script"]
noncomputable def mb58:MT:=.cons (.set 1 (.pur (.bin .Add (.int 1) (.bin .Mod (.call 39 "_law_cell" (.cons (.var 0) (.cons (.int 0) .nil))) (.int 3))))) (.cons (.set 2 (.pur (.bin .Add (.int 1) (.bin .Mod (.call 39 "_law_cell" (.cons (.var 0) (.cons (.int 1) .nil))) (.int 2))))) (.cons (.for1 3 (.rng2 (.int 2) (.int 4)) (.cons (.set 4 (.pur (.call 41 "_law_spread" (.cons (.call 39 "_law_cell" (.cons (.var 0) (.cons (.var 3) .nil))) (.cons (.var 3) .nil))))) (.cons (.set 5 (.call 10 "_law_shape" (.cons (.pur (.bin .FloorDiv (.var 4) (.int 5))) (.cons (.var 1) (.cons (.var 2) .nil))))) (.cons (.set 6 (.pur .non)) (.cons (.ife (.pur (.cmp .Gt (.bin .Mod (.var 4) (.int 5)) (.int 0))) (.cons (.set 6 (.pur (.call 46 "_law_part" (.cons (.call 41 "_law_spread" (.cons (.call 39 "_law_cell" (.cons (.var 0) (.cons (.bin .Add (.var 3) (.int 4)) .nil))) (.cons (.bin .Add (.var 3) (.int 4)) .nil))) .nil)))) .nil) .nil) (.cons (.ife (.not (.call 15 "_law_good" (.cons (.var 1) (.cons (.var 2) (.cons (.var 5) (.cons (.pur (.call 55 "_law_ink" (.cons (.call 41 "_law_spread" (.cons (.call 39 "_law_cell" (.cons (.var 0) (.cons (.bin .Add (.var 3) (.int 8)) .nil))) (.cons (.var 3) .nil))) .nil))) (.cons (.var 6) .nil))))))) (.cons (.ret (.pur (.bl false))) .nil) .nil) .nil)))))) (.cons (.ret (.pur (.bl true))) .nil)))
theorem zT7:cSs' (zAA (top 78)) N58 bs mb58 (zAK (top 78))=true:=by decide +kernel
theorem sc58:zAi N58 P58 (zAA (top 78)):=by (walk_at "f")
def zGk:List Str:=["self","shape","ink","strength"]
def zCd:List Str:=["self","shape","ink","strength"]
theorem zIW:zAi zGk zCd (zAA (zAR (top 55) 0)):=by (walk_at "f")
def zCl:List (Str×ME):=[("shape",(.call 2 "own_shape" (.cons (.var 1) .nil))),("ink",(.var 2)),("strength",(.pur (.call 35 "strength_or_one" (.cons (.var 3) .nil))))]
theorem zG7:zI2 (zAA (zAR (top 55) 0)) zGk bs "self" zCl (zAK (zAR (top 55) 0))=true:=by decide +kernel
def zIO:List Str:=["self","shape","strength"]
def zDP:List Str:=["self","shape","strength"]
theorem zJX:zAi zIO zDP (zAA (zAR (top 56) 0)):=by (walk_at "f")
def zDF:List (Str×ME):=[("shape",(.call 2 "own_shape" (.cons (.var 1) .nil))),("strength",(.pur (.call 35 "strength_or_one" (.cons (.var 2) .nil))))]
theorem zIm:zI2 (zAA (zAR (top 56) 0)) zIO bs "self" zDF (zAK (zAR (top 56) 0))=true:=by decide +kernel
def zBI:List Str:=["self","width","height","thinned"]
def zCe:List Str:=["self","width","height"]
theorem zFL:zAi zBI zCe (zAA (zAR (top 55) 1)):=by (walk_at "f")
def zC5:List Str:=["self","width","height"]
def zC4:List Str:=["self","width","height"]
theorem zF6:zAi zC5 zC4 (zAA (zAR (top 56) 1)):=by (walk_at "f")
def zCX:MT:=.cons (.ret (.call 3 "each_changed" (.cons (.call 5 "thinned_covers" (.cons (.var 1) (.cons (.var 2) (.cons (.fld (.var 0) "shape") (.cons (.fld (.var 0) "strength") .nil))))) (.cons (.pur (.glob 4 "rub_film")) .nil)))) .nil
theorem zFY:cSs' (zAA (zAR (top 56) 1)) zC5 bs zCX (zAK (zAR (top 56) 1))=true:=by decide +kernel
def mp0:MT:=.nil
def me0:ME:=(.call 4 "covers" (.cons (.var 0) (.cons (.var 1) (.cons (.var 2) .nil))))
theorem pck0:cPre (zAA (top 52)) N38 bs mp0 (zAK (top 52)).dropLast=true:=by decide +kernel
theorem eck0:cM me0 (zAA (top 52)) N38 bs (zHw (top 52))=true:=by decide +kernel
noncomputable def mp1:MT:=(.cons (.set 3 (.call 5 "thinned_covers" (.cons (.var 1) (.cons (.var 2) (.cons (.fld (.var 0) "shape") (.cons (.fld (.var 0) "strength") .nil)))))) .nil)
def me1:ME:=(.var 3)
theorem pck1:cPre (zAA (zAR (top 55) 1)) zBI bs mp1 (zAK (zAR (top 55) 1)).dropLast=true:=by decide +kernel
theorem eck1:cM me1 (zAA (zAR (top 55) 1)) zBI bs (zHw (zAR (top 55) 1))=true:=by decide +kernel
noncomputable def G0:Gm:=⟨[],[("NOUGHT",.tup [.int 0,.int 1]),("HALF",.tup [.int 1,.int 2]),("ONE",.tup [.int 1,.int 1]),("cover",.fn 11 "cover"),("rub_film",.fn 15 "rub_film")],[],[],[],[],[("Fill","shape",none),("Fill","ink",none),("Fill","strength",none),("Rub","shape",none),("Rub","strength",none),("Fill","Layer",some true),("Rub","Layer",some true)]⟩
def F0:List D->Option R:=dFun 2 3 (evSs G0 b0)
def G1:Gm:=G0.add "common_measure" F0
def F1:List D->Option R:=dFun 2 3 (evSs G1 b1)
def G2:Gm:=G1.add "ratio" F1
def F2:List D->Option R:=dFun 2 2 (evSs G2 b2)
def G3:Gm:=G2.add "plus" F2
def F3:List D->Option R:=dFun 2 2 (evSs G3 b3)
def G4:Gm:=G3.add "minus" F3
def F4:List D->Option R:=dFun 2 2 (evSs G4 b4)
def G5:Gm:=G4.add "times" F4
def F5:List D->Option R:=dFun 2 2 (evSs G5 b5)
def G6:Gm:=G5.add "parted" F5
def F6:List D->Option R:=dFun 1 2 (evSs G6 b6)
def G7:Gm:=G6.add "neighbours_added" F6
def F7:List D->Option R:=dFun 1 2 (evSs G7 b7)
def G8:Gm:=G7.add "total" F7
def F8:List D->Option R:=dFun 2 2 (evSs G8 b8)
def G9:Gm:=G8.add "under" F8
def F9:List D->Option R:=dFun 3 3 (evSs G9 b9)
def G10:Gm:=G9.add "between" F9
def F10:List D->Option R:=dFun 1 1 (evSs G10 b10)
def G11:Gm:=G10.add "whole_part" F10
def F11:List D->Option R:=dFun 1 1 (evSs G11 b11)
def G12:Gm:=G11.add "cover" F11
def F12:List D->Option R:=dFun 1 1 (evSs G12 b12)
def G13:Gm:=G12.add "rest_of" F12
def F13:List D->Option R:=dFun 2 2 (evSs G13 b13)
def G14:Gm:=G13.add "multiplied" F13
def F14:List D->Option R:=dFun 2 2 (evSs G14 b14)
def G15:Gm:=G14.add "ink_film" F14
def F15:List D->Option R:=dFun 1 1 (evSs G15 b15)
def G16:Gm:=G15.add "rub_film" F15
def F16:List D->Option R:=dFun 1 1 (evSs G16 b16)
def G17:Gm:=G16.add "sides" F16
def zTk:Gm:=G17.add "numbers_between" (λ_=>none)
def zTl:List D->Option R:=dFun 3 3 (evSs zTk b17)
def zTj:Gm:=G17.add "numbers_between" zTl
def F17:List D->Option R:=dFun 3 3 (evSs zTj b17)
def G18:Gm:=G17.add "numbers_between" F17
def F18:List D->Option R:=dFun 5 6 (evSs G18 b18)
def G19:Gm:=G18.add "rests_at" F18
def F19:List D->Option R:=dFun 2 6 (evSs G19 b19)
def G20:Gm:=G19.add "upright_crossings" F19
def F20:List D->Option R:=dFun 2 6 (evSs G20 b20)
def G21:Gm:=G20.add "level_crossings" F20
def F21:List D->Option R:=dFun 3 3 (evSs G21 b21)
def G22:Gm:=G21.add "comes_ahead" F21
def F22:List D->Option R:=dFun 3 6 (evSs G22 b22)
def G23:Gm:=G22.add "made_one" F22
def F23:List D->Option R:=dFun 3 6 (evSs G23 b23)
def G24:Gm:=G23.add "stops" F23
def F24:List D->Option R:=dFun 2 2 (evSs G24 b24)
def G25:Gm:=G24.add "middle" F24
def F25:List D->Option R:=dFun 2 4 (evSs G25 b25)
def G26:Gm:=G25.add "piece_between" F25
def F26:List D->Option R:=dFun 3 3 (evSs G26 b26)
def G27:Gm:=G26.add "counts_on" F26
def F27:List D->Option R:=dFun 3 5 (evSs G27 b27)
def G28:Gm:=G27.add "pieces" F27
def F28:List D->Option R:=dFun 1 1 (evSs G28 b28)
def G29:Gm:=G28.add "fall" F28
def F29:List D->Option R:=dFun 1 2 (evSs G29 b29)
def G30:Gm:=G29.add "right" F29
def F30:List D->Option R:=dFun 1 1 (evSs G30 b30)
def G31:Gm:=G30.add "empty_lists" F30
def F31:List D->Option R:=dFun 3 6 (evSs G31 b31)
def G32:Gm:=G31.add "all_pieces" F31
def F32:List D->Option R:=dFun 2 5 (evSs G32 b32)
def G33:Gm:=G32.add "row_of_shares" F32
def F33:List D->Option R:=λ_=>none
def G34:Gm:=G33.add "shares" F33
def F34:List D->Option R:=λ_=>none
def G35:Gm:=G34.add "own_shape" F34
def F35:List D->Option R:=dFun 1 1 (evSs G35 b35)
def G36:Gm:=G35.add "strength_or_one" F35
def F36:List D->Option R:=λ_=>none
def G37:Gm:=G36.add "each_changed" F36
def F37:List D->Option R:=λ_=>none
def G38:Gm:=G37.add "covers" F37
def F38:List D->Option R:=λ_=>none
def G39:Gm:=G38.add "thinned_covers" F38
def F39:List D->Option R:=dFun 2 4 (evSs G39 b39)
def G40:Gm:=G39.add "_law_cell" F39
def F40:List D->Option R:=dFun 1 1 (evSs G40 b40)
def G41:Gm:=G40.add "_law_whole" F40
def F41:List D->Option R:=dFun 2 2 (evSs G41 b41)
def G42:Gm:=G41.add "_law_spread" F41
def F42:List D->Option R:=dFun 2 5 (evSs G42 b42)
def G43:Gm:=G42.add "_law_low" F42
def F43:List D->Option R:=dFun 2 2 (evSs G43 b43)
def G44:Gm:=G43.add "_law_minus" F43
def F44:List D->Option R:=dFun 2 2 (evSs G44 b44)
def G45:Gm:=G44.add "_law_times" F44
def F45:List D->Option R:=dFun 2 4 (evSs G45 b45)
def G46:Gm:=G45.add "_law_like" F45
def F46:List D->Option R:=dFun 1 4 (evSs G46 b46)
def G47:Gm:=G46.add "_law_part" F46
def F47:List D->Option R:=dFun 2 4 (evSs G47 b47)
def G48:Gm:=G47.add "_law_ink_film" F47
def F48:List D->Option R:=dFun 2 3 (evSs G48 b48)
def G49:Gm:=G48.add "_law_at" F48
def F49:List D->Option R:=dFun 3 7 (evSs G49 b49)
def G50:Gm:=G49.add "_law_box" F49
def F50:List D->Option R:=λ_=>none
def G51:Gm:=G50.add "_law_shape" F50
def F51:List D->Option R:=λ_=>none
def G52:Gm:=G51.add "_law_covers" F51
def F52:List D->Option R:=dFun 2 4 (evSs G52 b52)
def G53:Gm:=G52.add "_law_rows_good" F52
def F53:List D->Option R:=λ_=>none
def G54:Gm:=G53.add "_law_inked" F53
def F54:List D->Option R:=λ_=>none
def G55:Gm:=G54.add "_law_rubbed" F54
def F55:List D->Option R:=dFun 1 1 (evSs G55 b55)
def G56:Gm:=G55.add "_law_ink" F55
def F56:List D->Option R:=λ_=>none
def G57:Gm:=G56.add "_law_spoilt" F56
def F57:List D->Option R:=λ_=>none
def G58:Gm:=G57.add "_law_good" F57
def L0:LamI:=zSP "thinned_covers" (top 52)
def lb0:E:=.call 4 "times" (.cons (.var 0) (.cons (.var 1) .nil))
theorem lsc0:zHX "s" ["strength"] L0/\frN L0=(["strength"]:List Str):=zHv (by decide +kernel) λ_ _ _ _ _=>rfl
theorem lck0:cE lb0 L0.scope ("s"::["strength"]) bs L0.body=true:=by decide +kernel
def FL0:List D->Option R:=lamD 1 (evE G58 lb0)
def GL0:Gm:=G58.addL L0 FL0
def L1:LamI:=zSP "Fill.films" (zAR (top 55) 1)
def lb1:E:=.call 14 "ink_film" (.cons (.var 0) (.cons (.fld (.var 1) "ink") .nil))
theorem lsc1:zHX "s" ["self"] L1/\frN L1=(["self"]:List Str):=zHv (by decide +kernel) λ_ _ _ _ _=>rfl
theorem lck1:cE lb1 L1.scope ("s"::["self"]) bs L1.body=true:=by decide +kernel
def FL1:List D->Option R:=lamD 1 (evE GL0 lb1)
def GL1:Gm:=GL0.addL L1 FL1
def D0:Dm:=[]
def FM30:MF:=zBL 1 1 (evSs' GL1 D0 mb30)
def D1:Dm:=[(("empty_lists":Str),FM30)]
def FM33:MF:=zBL 3 7 (evSs' GL1 D1 mb33)
def D2:Dm:=[(("empty_lists":Str),FM30),(("shares":Str),FM33)]
def FM34:MF:=zBL 1 1 (evSs' GL1 D2 mb34)
def D3:Dm:=[(("empty_lists":Str),FM30),(("shares":Str),FM33),(("own_shape":Str),FM34)]
def FM36:MF:=zBL 2 2 (evSs' GL1 D3 mb36)
def D4:Dm:=[(("empty_lists":Str),FM30),(("shares":Str),FM33),(("own_shape":Str),FM34),(("each_changed":Str),FM36)]
def FM37:MF:=zBL 3 3 (evSs' GL1 D4 mb37)
def D5:Dm:=[(("empty_lists":Str),FM30),(("shares":Str),FM33),(("own_shape":Str),FM34),(("each_changed":Str),FM36),(("covers":Str),FM37)]
def FM38:MF:=lamM FM36 0 L0 [3] P38.length N38.length (zLE GL1 D5 mp0) (evM GL1 D5 me0)
def D6:Dm:=[(("empty_lists":Str),FM30),(("shares":Str),FM33),(("own_shape":Str),FM34),(("each_changed":Str),FM36),(("covers":Str),FM37),(("thinned_covers":Str),FM38)]
def zAd:MF:=zG6 "Fill" 3 (zCl.map λp=>(p.1,evM GL1 D6 p.2))
def D7:Dm:=[(("empty_lists":Str),FM30),(("shares":Str),FM33),(("own_shape":Str),FM34),(("each_changed":Str),FM36),(("covers":Str),FM37),(("thinned_covers":Str),FM38),(("Fill()":Str),zAd)]
def zAu:MF:=zG6 "Rub" 2 (zDF.map λp=>(p.1,evM GL1 D7 p.2))
def D8:Dm:=[(("empty_lists":Str),FM30),(("shares":Str),FM33),(("own_shape":Str),FM34),(("each_changed":Str),FM36),(("covers":Str),FM37),(("thinned_covers":Str),FM38),(("Fill()":Str),zAd),(("Rub()":Str),zAu)]
def zAj:MF:=lamM FM36 1 L1 [0] zCe.length zBI.length (zLE GL1 D8 mp1) (evM GL1 D8 me1)
def D9:Dm:=[(("empty_lists":Str),FM30),(("shares":Str),FM33),(("own_shape":Str),FM34),(("each_changed":Str),FM36),(("covers":Str),FM37),(("thinned_covers":Str),FM38),(("Fill()":Str),zAd),(("Rub()":Str),zAu),(("Fill.films":Str),zAj)]
def zAy:MF:=zBL zC4.length zC5.length (evSs' GL1 D9 zCX)
def D10:Dm:=[(("empty_lists":Str),FM30),(("shares":Str),FM33),(("own_shape":Str),FM34),(("each_changed":Str),FM36),(("covers":Str),FM37),(("thinned_covers":Str),FM38),(("Fill()":Str),zAd),(("Rub()":Str),zAu),(("Fill.films":Str),zAj),(("Rub.films":Str),zAy)]
def FM50:MF:=zBL 3 9 (evSs' GL1 D10 mb50)
def D11:Dm:=[(("empty_lists":Str),FM30),(("shares":Str),FM33),(("own_shape":Str),FM34),(("each_changed":Str),FM36),(("covers":Str),FM37),(("thinned_covers":Str),FM38),(("Fill()":Str),zAd),(("Rub()":Str),zAu),(("Fill.films":Str),zAj),(("Rub.films":Str),zAy),(("_law_shape":Str),FM50)]
def FM51:MF:=zBL 3 7 (evSs' GL1 D11 mb51)
def D12:Dm:=[(("empty_lists":Str),FM30),(("shares":Str),FM33),(("own_shape":Str),FM34),(("each_changed":Str),FM36),(("covers":Str),FM37),(("thinned_covers":Str),FM38),(("Fill()":Str),zAd),(("Rub()":Str),zAu),(("Fill.films":Str),zAj),(("Rub.films":Str),zAy),(("_law_shape":Str),FM50),(("_law_covers":Str),FM51)]
def FM53:MF:=zBL 3 3 (evSs' GL1 D12 mb53)
def D13:Dm:=[(("empty_lists":Str),FM30),(("shares":Str),FM33),(("own_shape":Str),FM34),(("each_changed":Str),FM36),(("covers":Str),FM37),(("thinned_covers":Str),FM38),(("Fill()":Str),zAd),(("Rub()":Str),zAu),(("Fill.films":Str),zAj),(("Rub.films":Str),zAy),(("_law_shape":Str),FM50),(("_law_covers":Str),FM51),(("_law_inked":Str),FM53)]
def FM54:MF:=zBL 2 5 (evSs' GL1 D13 mb54)
def D14:Dm:=[(("empty_lists":Str),FM30),(("shares":Str),FM33),(("own_shape":Str),FM34),(("each_changed":Str),FM36),(("covers":Str),FM37),(("thinned_covers":Str),FM38),(("Fill()":Str),zAd),(("Rub()":Str),zAu),(("Fill.films":Str),zAj),(("Rub.films":Str),zAy),(("_law_shape":Str),FM50),(("_law_covers":Str),FM51),(("_law_inked":Str),FM53),(("_law_rubbed":Str),FM54)]
def FM56:MF:=zBL 4 5 (evSs' GL1 D14 mb56)
def D15:Dm:=[(("empty_lists":Str),FM30),(("shares":Str),FM33),(("own_shape":Str),FM34),(("each_changed":Str),FM36),(("covers":Str),FM37),(("thinned_covers":Str),FM38),(("Fill()":Str),zAd),(("Rub()":Str),zAu),(("Fill.films":Str),zAj),(("Rub.films":Str),zAy),(("_law_shape":Str),FM50),(("_law_covers":Str),FM51),(("_law_inked":Str),FM53),(("_law_rubbed":Str),FM54),(("_law_spoilt":Str),FM56)]
def FM57:MF:=zBL 5 9 (evSs' GL1 D15 mb57)
def D16:Dm:=[(("empty_lists":Str),FM30),(("shares":Str),FM33),(("own_shape":Str),FM34),(("each_changed":Str),FM36),(("covers":Str),FM37),(("thinned_covers":Str),FM38),(("Fill()":Str),zAd),(("Rub()":Str),zAu),(("Fill.films":Str),zAj),(("Rub.films":Str),zAy),(("_law_shape":Str),FM50),(("_law_covers":Str),FM51),(("_law_inked":Str),FM53),(("_law_rubbed":Str),FM54),(("_law_spoilt":Str),FM56),(("_law_good":Str),FM57)]
def FM58:MF:=zBL 1 7 (evSs' GL1 D16 mb58)
theorem len1 {U:Type}:∀ {us:List U},us.length=1->∃ a0,us=[a0]
 | [a0],_=>⟨a0,rfl⟩
theorem len2 {U:Type}:∀ {us:List U},us.length=2->∃ a0 a1,us=[a0,a1]
 | [a0,a1],_=>⟨a0,a1,rfl⟩
theorem len3 {U:Type}:∀ {us:List U},us.length=3->∃ a0 a1 a2,us=[a0,a1,a2]
 | [a0,a1,a2],_=>⟨a0,a1,a2,rfl⟩
theorem len4 {U:Type}:∀ {us:List U},us.length=4->∃ a0 a1 a2 a3,us=[a0,a1,a2,a3]
 | [a0,a1,a2,a3],_=>⟨a0,a1,a2,a3,rfl⟩
set_option maxHeartbeats 4000000 in
theorem all_mk {l:W.OpenLaw}(X:K.In h)(G:h.Ns mainGlobals mg)(hfa:mg "law"=some (.ref fa))
    
      
   (lt0:tabQ K "thinned_covers"=some (lc0,lp0))
   (lt1:tabQ K "Fill.films"=some (lc1,lp1))
  
    
  
  (t0:FT K "common_measure" (top 8) f0)
  (t1:FT K "ratio" (top 9) f1)
  (t2:FT K "plus" (top 10) f2)
  (t3:FT K "minus" (top 11) f3)
  (t4:FT K "times" (top 12) f4)
  (t5:FT K "parted" (top 13) f5)
  (t6:FT K "neighbours_added" (top 14) f6)
  (t7:FT K "total" (top 15) f7)
  (t8:FT K "under" (top 16) f8)
  (t9:FT K "between" (top 17) f9)
  (t10:FT K "whole_part" (top 18) f10)
  (t11:FT K "cover" (top 20) f11)
  (t12:FT K "rest_of" (top 22) f12)
  (t13:FT K "multiplied" (top 23) f13)
  (t14:FT K "ink_film" (top 24) f14)
  (t15:FT K "rub_film" (top 25) f15)
  (t16:FT K "sides" (top 27) f16)
  (t17:FT K "numbers_between" (top 29) f17)
  (t18:FT K "rests_at" (top 30) f18)
  (t19:FT K "upright_crossings" (top 31) f19)
  (t20:FT K "level_crossings" (top 32) f20)
  (t21:FT K "comes_ahead" (top 33) f21)
  (t22:FT K "made_one" (top 34) f22)
  (t23:FT K "stops" (top 35) f23)
  (t24:FT K "middle" (top 36) f24)
  (t25:FT K "piece_between" (top 37) f25)
  (t26:FT K "counts_on" (top 38) f26)
  (t27:FT K "pieces" (top 39) f27)
  (t28:FT K "fall" (top 40) f28)
  (t29:FT K "right" (top 41) f29)
  (t30:FT K "empty_lists" (top 43) f30)
  (t31:FT K "all_pieces" (top 44) f31)
  (t32:FT K "row_of_shares" (top 45) f32)
  (t33:FT K "shares" (top 46) f33)
  (t34:FT K "own_shape" (top 48) f34)
  (t35:FT K "strength_or_one" (top 49) f35)
  (t36:FT K "each_changed" (top 50) f36)
  (t37:FT K "covers" (top 51) f37)
  (t38:FT K "thinned_covers" (top 52) f38)
  (t39:FT K "_law_cell" (top 58) f39)
  (t40:FT K "_law_whole" (top 59) f40)
  (t41:FT K "_law_spread" (top 60) f41)
  (t42:FT K "_law_low" (top 61) f42)
  (t43:FT K "_law_minus" (top 63) f43)
  (t44:FT K "_law_times" (top 64) f44)
  (t45:FT K "_law_like" (top 65) f45)
  (t46:FT K "_law_part" (top 66) f46)
  (t47:FT K "_law_ink_film" (top 67) f47)
  (t48:FT K "_law_at" (top 68) f48)
  (t49:FT K "_law_box" (top 69) f49)
  (t50:FT K "_law_shape" (top 70) f50)
  (t51:FT K "_law_covers" (top 71) f51)
  (t52:FT K "_law_rows_good" (top 72) f52)
  (t53:FT K "_law_inked" (top 73) f53)
  (t54:FT K "_law_rubbed" (top 74) f54)
  (t55:FT K "_law_ink" (top 75) f55)
  (t56:FT K "_law_spoilt" (top 76) f56)
  (t57:FT K "_law_good" (top 77) f57)
  (a58:W.nsIn K mainGlobals "law"=some (some (.ref f58))) (l58:K.lookup f58=some ⟨oc58,od58,.func (W.fnOf "law" "law" (zAs (top 78)) (zAK (top 78)) (zAA (top 78)) .none kV58 dc58 pm58 an58 cd58 ct58),sl58⟩) (c58:W.codeIn K cd58 "law"=true) (k58:W.keepIn K (.ref f58)=true)
  (z0:W.nsIn K mainGlobals "abs"=some none)
  (z1:W.nsIn K mainGlobals "len"=some none)
  (z2:W.nsIn K mainGlobals "range"=some none)
  (z3:W.nsIn K mainGlobals "list"=some none)
  (z4:W.nsIn K mainGlobals "tuple"=some none)
  (z5:W.nsIn K mainGlobals "zip"=some none)
  (z6:W.nsIn K mainGlobals "reversed"=some none)
  (z7:W.nsIn K mainGlobals "max"=some none)
  (z8:W.nsIn K mainGlobals "isinstance"=some none)
  (z9:W.nsIn K mainGlobals "bool"=some none)
  (z10:W.nsIn K mainGlobals "int"=some none)
  (ca0:W.nsIn K mainGlobals "NOUGHT"=some (some (.ref g0))) (cl0:K.lookup g0=some ⟨.type "tuple",cod0,.seq cit0 cn0,csl0⟩) (cv0:cit0.toList.map absV=[some (.int 0),some (.int 1)])
  (ca1:W.nsIn K mainGlobals "HALF"=some (some (.ref g1))) (cl1:K.lookup g1=some ⟨.type "tuple",cod1,.seq cit1 cn1,csl1⟩) (cv1:cit1.toList.map absV=[some (.int 1),some (.int 2)])
  (ca2:W.nsIn K mainGlobals "ONE"=some (some (.ref g2))) (cl2:K.lookup g2=some ⟨.type "tuple",cod2,.seq cit2 cn2,csl2⟩) (cv2:cit2.toList.map absV=[some (.int 1),some (.int 1)])
  (oa_u0:W.nsIn K mainGlobals "Fill"=some (some (.ref o_u0)))
  (pg_u0:W.plainGet K o_u0 Str.empty=true)
  (hd_u0:W.hasDictIn K o_u0=true)
  (po_u0:W.plainOver K o_u0=true)
  (sa_u0:W.findIn K (.ref o_u0) "__setattr__"=some (some (.builtin "object.__setattr__")))
  (mk_u0:W.makesIn K o_u0=true)
  (kc_u0:W.keepIn K (.ref o_u0)=true)
  (nf_u0_shape:W.findIn K (.ref o_u0) "shape"=some none)
  (nf_u0_ink:W.findIn K (.ref o_u0) "ink"=some none)
  (nf_u0_strength:W.findIn K (.ref o_u0) "strength"=some none)
  (cc_u0:W.findIn K (.ref o_u0) "__class__"=some (some (.builtin "object.__class__")))
  (mr_u0:W.mroIn K o_u0 (.type "object")=some true)
  (oa_u1:W.nsIn K mainGlobals "Rub"=some (some (.ref o_u1)))
  (pg_u1:W.plainGet K o_u1 Str.empty=true)
  (hd_u1:W.hasDictIn K o_u1=true)
  (po_u1:W.plainOver K o_u1=true)
  (sa_u1:W.findIn K (.ref o_u1) "__setattr__"=some (some (.builtin "object.__setattr__")))
  (mk_u1:W.makesIn K o_u1=true)
  (kc_u1:W.keepIn K (.ref o_u1)=true)
  (nf_u1_shape:W.findIn K (.ref o_u1) "shape"=some none)
  (nf_u1_strength:W.findIn K (.ref o_u1) "strength"=some none)
  (cc_u1:W.findIn K (.ref o_u1) "__class__"=some (some (.builtin "object.__class__")))
  (mr_u1:W.mroIn K o_u1 (.type "object")=some true)
  (oa_iso:W.nsIn K mainGlobals "Layer"=some (some (.ref o_iso)))
  (sp_iso:W.specialIn K (.builtin "object.__class__") "__get__"=some (some (.builtin "getset_descriptor.__get__")))
  (tk_iso:W.takesIn K (.builtin "object.__class__")=some true)
  (ki_u0:W.kitOne K (.ref o_u0) (.ref o_iso)=some true)
  (ki_u1:W.kitOne K (.ref o_u1) (.ref o_iso)=some true)
  (m_q0:W.findIn K (.ref o_u0) "__init__"=some (some (.ref f_q0)))
  (i_q0:W.isFn K (.ref f_q0)=true)
  (l_q0:K.lookup f_q0=some ⟨oc_q0,od_q0,.func (W.fnOf "__init__" "Fill.__init__" (zAs (zAR (top 55) 0)) (zAK (zAR (top 55) 0)) (zAA (zAR (top 55) 0)) (.ref T_q0) kV_q0 dc_q0 pm_q0 an_q0 cd_q0 ct_q0),sl_q0⟩)
  (c_q0:W.codeIn K cd_q0 "Fill.__init__"=true)
  (k_q0:W.keepIn K (.ref f_q0)=true)
  (lT_q0:K.lookup T_q0=some ⟨ocT_q0,odT_q0,.seq #[.none] nT_q0,slT_q0⟩)
  (m_q1:W.findIn K (.ref o_u0) "films"=some (some (.ref f_q1)))
  (i_q1:W.isFn K (.ref f_q1)=true)
  (l_q1:K.lookup f_q1=some ⟨oc_q1,od_q1,.func (W.fnOf "films" "Fill.films" (zAs (zAR (top 55) 1)) (zAK (zAR (top 55) 1)) (zAA (zAR (top 55) 1)) .none kV_q1 dc_q1 pm_q1 an_q1 cd_q1 ct_q1),sl_q1⟩)
  (c_q1:W.codeIn K cd_q1 "Fill.films"=true)
  (k_q1:W.keepIn K (.ref f_q1)=true)
  (m_q2:W.findIn K (.ref o_u1) "__init__"=some (some (.ref f_q2)))
  (i_q2:W.isFn K (.ref f_q2)=true)
  (l_q2:K.lookup f_q2=some ⟨oc_q2,od_q2,.func (W.fnOf "__init__" "Rub.__init__" (zAs (zAR (top 56) 0)) (zAK (zAR (top 56) 0)) (zAA (zAR (top 56) 0)) (.ref T_q2) kV_q2 dc_q2 pm_q2 an_q2 cd_q2 ct_q2),sl_q2⟩)
  (c_q2:W.codeIn K cd_q2 "Rub.__init__"=true)
  (k_q2:W.keepIn K (.ref f_q2)=true)
  (lT_q2:K.lookup T_q2=some ⟨ocT_q2,odT_q2,.seq #[.none] nT_q2,slT_q2⟩)
  (m_q3:W.findIn K (.ref o_u1) "films"=some (some (.ref f_q3)))
  (i_q3:W.isFn K (.ref f_q3)=true)
  (l_q3:K.lookup f_q3=some ⟨oc_q3,od_q3,.func (W.fnOf "films" "Rub.films" (zAs (zAR (top 56) 1)) (zAK (zAR (top 56) 1)) (zAA (zAR (top 56) 1)) .none kV_q3 dc_q3 pm_q3 an_q3 cd_q3 ct_q3),sl_q3⟩)
  (c_q3:W.codeIn K cd_q3 "Rub.films"=true)
  (k_q3:W.keepIn K (.ref f_q3)=true)
  : ∃ fd:FuncData,(∀ (s:Shared) (v:Value),BindsTo s fd ⟨[v],[]⟩ [("_law_script",v)])/\∀ base:Heap,K.In base->base.Ns mainGlobals mg->FnOk l.prog w K mg base CX0 69 fa fd ["_law_script"] (spM K FM58):=by
 have e:=hfa.symm.trans (W.mg_of X G a58);cases e;obtain⟨_,E17⟩:=t17.F;have B17:=E17.binds (ps:=P17) λ_ _ _ _ _ _ us hl=>by obtain⟨_,_,_,rfl⟩:=len3 hl;rfl
 obtain⟨_,E38⟩:=t38.F;have B38:=E38.binds (ps:=P38) λ_ _ _ _ _ _ us hl=>by obtain⟨_,_,_,_,rfl⟩:=len4 hl;rfl
 have E58:=zH0 (st:=top 78) l58 c58 k58;have B58:=E58.binds (ps:=P58) λ_ _ _ _ _ _ us hl=>by obtain⟨_,rfl⟩:=len1 hl;rfl
 refine⟨W.fnOf "law" "law" (zAs (top 78)) (zAK (top 78)) (zAA (top 78)) .none kV58 dc58 pm58 an58 cd58 ct58,λs v=>.of_eq rfl,λbase _ _=>?_⟩;have g0:GOk l.prog w K mg base 0 G0 bs:=⟨λx F h=>absurd h (by simp[G0]),λx d h=>?_,λx h=>?_,trivial,trivial,trivial,λj L F e=>absurd e (by simp[G0]),λp h=>?_⟩
 .have g1:GOk l.prog w K mg base 1 G1 bs:=g0.addT X G t0 ck0 (bz2 rfl rfl);have g2:GOk l.prog w K mg base 2 G2 bs:=g1.addT X G t1 ck1 (bz2 rfl rfl);have g3:GOk l.prog w K mg base 3 G3 bs:=g2.addT X G t2 ck2 (bz2 rfl rfl);have g4:GOk l.prog w K mg base 4 G4 bs:=g3.addT X G t3 ck3 (bz2 rfl rfl);have g5:GOk l.prog w K mg base 5 G5 bs:=g4.addT X G t4 ck4 (bz2 rfl rfl);have g6:GOk l.prog w K mg base 6 G6 bs:=g5.addT X G t5 ck5 (bz2 rfl rfl);have g7:GOk l.prog w K mg base 7 G7 bs:=g6.addT X G t6 ck6 (bz1 rfl rfl);have g8:GOk l.prog w K mg base 8 G8 bs:=g7.addT X G t7 ck7 (bz1 rfl rfl);have g9:GOk l.prog w K mg base 9 G9 bs:=g8.addT X G t8 ck8 (bz2 rfl rfl);have g10:GOk l.prog w K mg base 10 G10 bs:=g9.addT X G t9 ck9 (bz3 rfl rfl);have g11:GOk l.prog w K mg base 11 G11 bs:=g10.addT X G t10 ck10 (bz1 rfl rfl);have g12:GOk l.prog w K mg base 12 G12 bs:=g11.addT X G t11 ck11 (bz1 rfl rfl);have g13:GOk l.prog w K mg base 13 G13 bs:=g12.addT X G t12 ck12 (bz1 rfl rfl);have g14:GOk l.prog w K mg base 14 G14 bs:=g13.addT X G t13 ck13 (bz2 rfl rfl);have g15:GOk l.prog w K mg base 15 G15 bs:=g14.addT X G t14 ck14 (bz2 rfl rfl);have g16:GOk l.prog w K mg base 16 G16 bs:=g15.addT X G t15 ck15 (bz1 rfl rfl);have g17:GOk l.prog w K mg base 17 G17 bs:=g16.addT X G t16 ck16 (bz1 rfl rfl);have g17_0:GOk l.prog w K mg base 17 zTk bs:=g17.addN E17 (W.mg_of X G t17.a) B17;have g17_1:GOk l.prog w K mg base 18 zTj bs:=g17.addR g17_0 (by decide) E17 sc17 ck17 (W.mg_of X G t17.a) B17;have g18:GOk l.prog w K mg base 19 G18 bs:=g17.addR g17_1 (by decide) E17 sc17 ck17 (W.mg_of X G t17.a) B17;have g19:GOk l.prog w K mg base 20 G19 bs:=g18.addT X G t18 ck18 (bz5 rfl rfl);have g20:GOk l.prog w K mg base 21 G20 bs:=g19.addT X G t19 ck19 (bz2 rfl rfl);have g21:GOk l.prog w K mg base 22 G21 bs:=g20.addT X G t20 ck20 (bz2 rfl rfl);have g22:GOk l.prog w K mg base 23 G22 bs:=g21.addT X G t21 ck21 (bz3 rfl rfl);have g23:GOk l.prog w K mg base 24 G23 bs:=g22.addT X G t22 ck22 (bz3 rfl rfl);have g24:GOk l.prog w K mg base 25 G24 bs:=g23.addT X G t23 ck23 (bz3 rfl rfl);have g25:GOk l.prog w K mg base 26 G25 bs:=g24.addT X G t24 ck24 (bz2 rfl rfl);have g26:GOk l.prog w K mg base 27 G26 bs:=g25.addT X G t25 ck25 (bz2 rfl rfl);have g27:GOk l.prog w K mg base 28 G27 bs:=g26.addT X G t26 ck26 (bz3 rfl rfl);have g28:GOk l.prog w K mg base 29 G28 bs:=g27.addT X G t27 ck27 (bz3 rfl rfl);have g29:GOk l.prog w K mg base 30 G29 bs:=g28.addT X G t28 ck28 (bz1 rfl rfl);have g30:GOk l.prog w K mg base 31 G30 bs:=g29.addT X G t29 ck29 (bz1 rfl rfl);have g31:GOk l.prog w K mg base 32 G31 bs:=g30.addT X G t30 ck30 (bz1 rfl rfl);have g32:GOk l.prog w K mg base 33 G32 bs:=g31.addT X G t31 ck31 (bz3 rfl rfl);have g33:GOk l.prog w K mg base 34 G33 bs:=g32.addT X G t32 ck32 (bz2 rfl rfl);have g34:GOk l.prog w K mg base 34 G34 bs:=g33.addU X G t33 zSH (bz3 rfl rfl);have g35:GOk l.prog w K mg base 34 G35 bs:=g34.addU X G t34 zSG (bz1 rfl rfl);have g36:GOk l.prog w K mg base 35 G36 bs:=g35.addT X G t35 ck35 (bz1 rfl rfl)
  have g37:GOk l.prog w K mg base 35 G37 bs:=g36.addU X G t36 zSF (bz2 rfl rfl);have g38:GOk l.prog w K mg base 35 G38 bs:=g37.addU X G t37 zSE (bz3 rfl rfl);have g39:GOk l.prog w K mg base 35 G39 bs:=g38.addN E38 (W.mg_of X G t38.a) B38;have g40:GOk l.prog w K mg base 36 G40 bs:=g39.addT X G t39 ck39 (bz2 rfl rfl);have g41:GOk l.prog w K mg base 37 G41 bs:=g40.addT X G t40 ck40 (bz1 rfl rfl);have g42:GOk l.prog w K mg base 38 G42 bs:=g41.addT X G t41 ck41 (bz2 rfl rfl);have g43:GOk l.prog w K mg base 39 G43 bs:=g42.addT X G t42 ck42 (bz2 rfl rfl);have g44:GOk l.prog w K mg base 40 G44 bs:=g43.addT X G t43 ck43 (bz2 rfl rfl);have g45:GOk l.prog w K mg base 41 G45 bs:=g44.addT X G t44 ck44 (bz2 rfl rfl);have g46:GOk l.prog w K mg base 42 G46 bs:=g45.addT X G t45 ck45 (bz2 rfl rfl);have g47:GOk l.prog w K mg base 43 G47 bs:=g46.addT X G t46 ck46 (bz1 rfl rfl);have g48:GOk l.prog w K mg base 44 G48 bs:=g47.addT X G t47 ck47 (bz2 rfl rfl);have g49:GOk l.prog w K mg base 45 G49 bs:=g48.addT X G t48 ck48 (bz2 rfl rfl);have g50:GOk l.prog w K mg base 46 G50 bs:=g49.addT X G t49 ck49 (bz3 rfl rfl);have g51:GOk l.prog w K mg base 46 G51 bs:=g50.addU X G t50 zSD (bz3 rfl rfl);have g52:GOk l.prog w K mg base 46 G52 bs:=g51.addU X G t51 zSC (bz3 rfl rfl);have g53:GOk l.prog w K mg base 47 G53 bs:=g52.addT X G t52 ck52 (bz2 rfl rfl);have g54:GOk l.prog w K mg base 47 G54 bs:=g53.addU X G t53 zSB (bz3 rfl rfl);have g55:GOk l.prog w K mg base 47 G55 bs:=g54.addU X G t54 zSA (bz2 rfl rfl);have g56:GOk l.prog w K mg base 48 G56 bs:=g55.addT X G t55 ck55 (bz1 rfl rfl);have g57:GOk l.prog w K mg base 48 G57 bs:=g56.addU X G t56 zR9 (bz4 rfl rfl);have g58:GOk l.prog w K mg base 48 G58 bs:=g57.addU X G t57 zR8 (bz5 rfl rfl);have bk_q0:=λ(s:Shared) (args:Args) (bi:List (Str×Value)) kk (hK:K.In s.heap) h1 h2=>zGX (s:=s) (args:=args) (binds:=bi) (kk:=kk) (fd:=W.fnOf "__init__" "Fill.__init__" (zAs (zAR (top 55) 0)) (zAK (zAR (top 55) 0)) (zAA (zAR (top 55) 0)) (.ref T_q0) kV_q0 dc_q0 pm_q0 an_q0 cd_q0 ct_q0) rfl lT_q0 hK h1 h2
  have E_q1:=zH0 (st:=(zAR (top 55) 1)) l_q1 c_q1 k_q1;have B_q1:=E_q1.binds (ps:=zCe) (bz3 rfl rfl);have bk_q2:=λ(s:Shared) (args:Args) (bi:List (Str×Value)) kk (hK:K.In s.heap) h1 h2=>zGX (s:=s) (args:=args) (binds:=bi) (kk:=kk) (fd:=W.fnOf "__init__" "Rub.__init__" (zAs (zAR (top 56) 0)) (zAK (zAR (top 56) 0)) (zAA (zAR (top 56) 0)) (.ref T_q2) kV_q2 dc_q2 pm_q2 an_q2 cd_q2 ct_q2) rfl lT_q2 hK h1 h2
  have E_q3:=zH0 (st:=(zAR (top 56) 1)) l_q3 c_q3 k_q3;have B_q3:=E_q3.binds (ps:=zC4) (bz3 rfl rfl);have gl0:GOk l.prog w K mg base 49 GL0 bs:=g58.addL lsc0.1 lsc0.2 lck0;have fq0:zHB K "thinned_covers"=some f38:=by
   unfold zHB;rw[show zPo.lookup ("thinned_covers":Str)=none from by decide +kernel];simp only[t38.a]
  have ld0:zFB K "thinned_covers" (top 52) f38 N38 (zAK (top 52)).dropLast (zHw (top 52)) "each_changed" L0 [3]:=by
   have cp:=zOf (sc:=zAA (top 52)) (ps:=N38) (ys:=["strength"]) (ix:=[3]) (by decide +kernel);rw[<- lsc0.2] at cp;exact⟨⟨_,_,_,_,rfl⟩,rfl,rfl,by decide,fq0,⟨_,_,lt0⟩,by decide +kernel,by decide,λ_=>rfl,by rw[lsc0.2];decide,cp.1,cp.2,zH1 _⟩
  have gl1:GOk l.prog w K mg base 50 GL1 bs:=gl0.addL lsc1.1 lsc1.2 lck1;have fq1:zHB K "Fill.films"=some f_q1:=by
   unfold zHB;rw[show zPo.lookup ("Fill.films":Str)=some (("Fill":Str),("films":Str)) from by decide +kernel];simp only[oa_u0,m_q1]
  have ld1:zFB K "Fill.films" (zAR (top 55) 1) f_q1 zBI (zAK (zAR (top 55) 1)).dropLast (zHw (zAR (top 55) 1)) "each_changed" L1 [0]:=by
   have cp:=zOf (sc:=zAA (zAR (top 55) 1)) (ps:=zBI) (ys:=["self"]) (ix:=[0]) (by decide +kernel);rw[<- lsc1.2] at cp;exact⟨⟨_,_,_,_,rfl⟩,rfl,rfl,by decide,fq1,⟨_,_,lt1⟩,by decide +kernel,by decide,λ_=>rfl,by rw[lsc1.2];decide,cp.1,cp.2,zH1 _⟩
  have d0:DmOk l.prog w K mg base 50 D0:=λx F h=>absurd h (by simp[D0])
  have d1:DmOk l.prog w K mg base 51 D1:=d0.addT (gl1.mono (by decide)) X G t30 zT8 (bz1 rfl rfl);have d2:DmOk l.prog w K mg base 52 D2:=d1.addT (gl1.mono (by decide)) X G t33 zSH (bz3 rfl rfl);have d3:DmOk l.prog w K mg base 53 D3:=d2.addT (gl1.mono (by decide)) X G t34 zSG (bz1 rfl rfl);have d4:DmOk l.prog w K mg base 54 D4:=d3.addT (gl1.mono (by decide)) X G t36 zSF (bz2 rfl rfl);have d5:DmOk l.prog w K mg base 55 D5:=d4.addT (gl1.mono (by decide)) X G t37 zSE (bz3 rfl rfl);have d6:DmOk l.prog w K mg base 56 D6:=d5.addF (gl1.mono (by decide)) E38 sc38 ld0 pck0 eck0 (W.mg_of X G t38.a) B38 (mem_of_getElem? (i:=3) (show D5[3]?=some (("each_changed":Str),FM36) from rfl));have fi_q0:=zKc (J:=GL1) (c := "Fill") (C:=o_u0) (y := "self") (ys:=zCd.tail) (L:=zCl) l_q0 c_q0 zIW (by decide +kernel) (by decide) zG7 (gl1.mono (by decide)) d6 oa_u0 ⟨pg_u0,hd_u0,po_u0,sa_u0⟩ (λn hn=>by
   simp only[zCl,map_cons,map_nil,mem_cons,not_mem_nil,or_false] at hn;rcases hn with rfl | rfl | rfl
   .exact nf_u0_shape
   .exact nf_u0_ink
   .exact nf_u0_strength
   ) (by decide +kernel) (by decide +kernel) (by decide +kernel) (by decide)
  have d7:DmOk l.prog w K mg base 58 D7:=(d6.mono (by decide)).addC (j:=57) (by decide) (by decide +kernel) (W.mg_of X G oa_u0) ⟨mk_u0,m_q0,i_q0,kc_u0⟩ fi_q0 (λs us hK hl=>by obtain⟨_,_,_,_,rfl⟩:=len4 (us:=us) (by simpa [zCd] using hl);exact bk_q0 s _ _ _ hK rfl rfl) (λs us hK hl=>by obtain⟨_,_,_,rfl⟩:=len3 (us:=us) (by simpa [zCd] using hl);exact bk_q0 s _ _ _ hK rfl rfl) (λs us u hK hl=>by obtain⟨_,_,_,rfl⟩:=len3 (us:=us) (by simpa [zCd] using hl);exact bk_q0 s _ _ _ hK rfl rfl);have fi_q2:=zKc (J:=GL1) (c := "Rub") (C:=o_u1) (y := "self") (ys:=zDP.tail) (L:=zDF) l_q2 c_q2 zJX (by decide +kernel) (by decide) zIm (gl1.mono (by decide)) d7 oa_u1 ⟨pg_u1,hd_u1,po_u1,sa_u1⟩ (λn hn=>by
   simp only[zDF,map_cons,map_nil,mem_cons,not_mem_nil,or_false] at hn;rcases hn with rfl | rfl
   .exact nf_u1_shape
   .exact nf_u1_strength
   ) (by decide +kernel) (by decide +kernel) (by decide +kernel) (by decide)
  have d8:DmOk l.prog w K mg base 60 D8:=(d7.mono (by decide)).addC (j:=59) (by decide) (by decide +kernel) (W.mg_of X G oa_u1) ⟨mk_u1,m_q2,i_q2,kc_u1⟩ fi_q2 (λs us hK hl=>by obtain⟨_,_,_,rfl⟩:=len3 (us:=us) (by simpa [zDP] using hl);exact bk_q2 s _ _ _ hK rfl rfl) (λs us hK hl=>by obtain⟨_,_,rfl⟩:=len2 (us:=us) (by simpa [zDP] using hl);exact bk_q2 s _ _ _ hK rfl rfl) (λs us u hK hl=>by obtain⟨_,_,rfl⟩:=len2 (us:=us) (by simpa [zDP] using hl);exact bk_q2 s _ _ _ hK rfl rfl);have d9:DmOk l.prog w K mg base 61 D9:=d8.addFM (gl1.mono (by decide)) E_q1 zFL ld1 pck1 eck1 B_q1 (mem_of_getElem? (i:=3) (show D8[3]?=some (("each_changed":Str),FM36) from rfl)) oa_u0 ⟨pg_u0,hd_u0,po_u0,sa_u0⟩ ⟨m_q1,i_q1,k_q1⟩ (by decide +kernel);have d10:DmOk l.prog w K mg base 62 D10:=d9.addM (gl1.mono (by decide)) E_q3 zF6 zFY B_q3 oa_u1 ⟨pg_u1,hd_u1,po_u1,sa_u1⟩ ⟨m_q3,i_q3,k_q3⟩ (by decide +kernel);have d11:DmOk l.prog w K mg base 63 D11:=d10.addT (gl1.mono (by decide)) X G t50 zSD (bz3 rfl rfl);have d12:DmOk l.prog w K mg base 64 D12:=d11.addT (gl1.mono (by decide)) X G t51 zSC (bz3 rfl rfl);have d13:DmOk l.prog w K mg base 65 D13:=d12.addT (gl1.mono (by decide)) X G t53 zSB (bz3 rfl rfl);have d14:DmOk l.prog w K mg base 66 D14:=d13.addT (gl1.mono (by decide)) X G t54 zSA (bz2 rfl rfl);have d15:DmOk l.prog w K mg base 67 D15:=d14.addT (gl1.mono (by decide)) X G t56 zR9 (bz4 rfl rfl);have d16:DmOk l.prog w K mg base 68 D16:=d15.addT (gl1.mono (by decide)) X G t57 zR8 (bz5 rfl rfl);exact zHN E58 sc58 zT7 (gl1.mono (by decide)) d16
 .simp only [G0,mem_cons,Prod.mk.injEq,List.mem_nil_iff,or_false,not_mem_nil] at h;rcases h with ⟨rfl,rfl⟩ | ⟨rfl,rfl⟩ | ⟨rfl,rfl⟩ | ⟨rfl,rfl⟩ | ⟨rfl,rfl⟩
  .exact zFg (ns:=[0,1]) (W.mg_of X G ca0) cl0 cv0
  .exact zFg (ns:=[1,2]) (W.mg_of X G ca1) cl1 cv1
  .exact zFg (ns:=[1,1]) (W.mg_of X G ca2) cl2 cv2
  .exact ⟨_,.ref f11,W.mg_of X G t11.a,rfl,by rw[Den];exact⟨_,rfl,t11.a⟩⟩
  .exact ⟨_,.ref f15,W.mg_of X G t15.a,rfl,by rw[Den];exact⟨_,rfl,t15.a⟩⟩
 .simp only [bs,mem_cons,List.mem_nil_iff,or_false,not_mem_nil] at h;rcases h with rfl | rfl | rfl | rfl | rfl | rfl | rfl | rfl | rfl | rfl | rfl
  .exact W.mg_none_of X G z0
  .exact W.mg_none_of X G z1
  .exact W.mg_none_of X G z2
  .exact W.mg_none_of X G z3
  .exact W.mg_none_of X G z4
  .exact W.mg_none_of X G z5
  .exact W.mg_none_of X G z6
  .exact W.mg_none_of X G z7
  .exact W.mg_none_of X G z8
  .exact W.mg_none_of X G z9
  .exact W.mg_none_of X G z10
 .simp only [G0,mem_cons,List.mem_nil_iff,or_false,not_mem_nil] at h;rcases h with rfl | rfl | rfl | rfl | rfl | rfl | rfl
  .exact λC q=>by obtain rfl:=zCb oa_u0 q;exact⟨⟨pg_u0,hd_u0,po_u0,sa_u0⟩,nf_u0_shape⟩
  .exact λC q=>by obtain rfl:=zCb oa_u0 q;exact⟨⟨pg_u0,hd_u0,po_u0,sa_u0⟩,nf_u0_ink⟩
  .exact λC q=>by obtain rfl:=zCb oa_u0 q;exact⟨⟨pg_u0,hd_u0,po_u0,sa_u0⟩,nf_u0_strength⟩
  .exact λC q=>by obtain rfl:=zCb oa_u1 q;exact⟨⟨pg_u1,hd_u1,po_u1,sa_u1⟩,nf_u1_shape⟩
  .exact λC q=>by obtain rfl:=zCb oa_u1 q;exact⟨⟨pg_u1,hd_u1,po_u1,sa_u1⟩,nf_u1_strength⟩
  .exact ⟨_,W.mg_of X G oa_iso,λC q=>by obtain rfl:=zCb oa_u0 q;exact⟨⟨⟨pg_u0,hd_u0,po_u0,sa_u0⟩,cc_u0,mr_u0,sp_iso,tk_iso⟩,ki_u0⟩⟩
  .exact ⟨_,W.mg_of X G oa_iso,λC q=>by obtain rfl:=zCb oa_u1 q;exact⟨⟨⟨pg_u1,hd_u1,po_u1,sa_u1⟩,cc_u1,mr_u1,sp_iso,tk_iso⟩,ki_u1⟩⟩
end Q
end
section
namespace Q
open PySem DL
open L2
theorem h0:zQ8 F0:=λa b Q ha hb h=>zPj ha hb h
theorem h1:zE9 F1:=zMO (nm:=0) rfl h0
theorem h2:zI6 F2:=zPC (nr:=1) rfl h1
theorem h3:zDo F3:=zMd (nr:=1) rfl h1
theorem h4:zDn F4:=zME (nr:=1) rfl h1
theorem h5:zFt F5:=zJt (nr:=1) rfl h1
theorem h6:zNp F6:=zPe (np:=2) rfl h2
theorem h7:zLv F7:=zMD (nn:=6) (ng:=0) rfl h6 rfl
theorem h8:zEd F8:=zMB
theorem h9 (p lo hi:Rat)(n:Nat)(Q:R->Prop)(hp:RB n p)(hl:RB n lo)(hh:RB n hi)(l:n<=10000000)(h:Q (ratD (if p < lo then lo else if hi < p then hi else p),.cl)):EvP (F9 [ratD p,ratD lo,ratD hi]) Q:=by
 (walk_at "d");unfold b9;(walk_at "st");(walk_at "w");refine h8 p lo n n _ hp hl (by omega) ?_;(walk_at "w");refine zBE (λc=>?_) λc=>?_
 .rw [if_pos c] at h;(walk_at "w");exact h
 rw[if_neg c] at h;(walk_at "w");refine h8 hi p n n _ hh hp (by omega) ?_;(walk_at "w");refine zBE (λc=>?_) λc=>?_
 .rw [if_pos c] at h;(walk_at "w");exact h
 rw[if_neg c] at h;(walk_at "w");exact h
def cov (p:Rat):Rat:=if p < 0 then 0 else if 1 < p then 1 else p
theorem h10:WpF F10:=zTq
theorem h11 (p:Rat)(n:Nat)(Q:R->Prop)(hp:RB n p)(l0:1<=n)(l:n<=10000000)(h:Q (ratD (cov p),.cl)):EvP (F11 [ratD p]) Q:=by
 (walk_at "d");unfold b11;(walk_at "st");(walk_at "w");refine h9 p 0 1 n _ hp (zCx.mono l0) (zDe.mono l0) l ?_;(walk_at "w");exact h
theorem zGY (h:RB n p)(l:1<=n):RB n (cov p):=by
 unfold cov;split
 .exact zCx.mono l
 .split
  .exact zDe.mono l
  .exact h
theorem h12:zNn F12:=zO2 (nm:=3) (n1:=2) rfl rfl h3
theorem h13:zQ7 F13:=zPg (nt:=4) rfl h4
theorem h14:InkF F14:=zSY (nr:=12) (nm:=13) rfl rfl h12 h13
theorem h15:RubF F15:=zRS (nr:=12) (n0:=0) rfl rfl h12
theorem h16:zLy F16:=zMH
theorem h17a:zQ6 zTl:=zJ9 (nu:=8) (ns:=17) rfl h8
theorem h17:zNo F17:=zPa (nu:=8) (ns:=17) rfl rfl h8 h17a
theorem h18:zIN F18:=zMN (nd:=5) (nm:=3) (np:=2) (nt:=4) rfl rfl rfl rfl h5 h3 h2 h4
theorem h19:UpcF F19:=zRC (nn:=17) (nr:=18) rfl rfl h17 h18
theorem h20:LvcF F20:=zSL (nn:=17) (nr:=18) rfl rfl h17 h18
theorem h21:zIQ F21:=zNj (nu:=8) rfl h8
theorem h22:zQ9 F22:=zPm (na:=21) rfl h21
theorem h23:zLw F23:=zMG (nm:=22) (nu:=19) (nl:=20) (nx:=8) rfl rfl rfl rfl h22 h19 h20 h8
theorem h24:MidF F24:=zR7 (nt:=4) (np:=2) (ng:=1) rfl rfl rfl h4 h2
theorem h25:PcF F25:=zT3 (nw:=10) (nm:=24) rfl rfl h10 h24
theorem h26:OnF F26:=zT4
theorem h27:zHW F27:=zJn (ns:=23) (np:=25) (no:=26) rfl rfl rfl h23 h25 h26
theorem h28:zL1 F28:=zQY (nm:=3) rfl h3
theorem h29:zIM F29:=zMM (ng:=0) (nt:=4) (nf:=28) (nm:=3) (nd:=24) rfl rfl rfl rfl rfl h4 h28 h3 h24
theorem h31:AllF F31:=zTi (ns:=16) (np:=27) rfl rfl h16 h27
theorem h32:RowF F32:=zRT (np:=2) (nt:=7) (ng:=0) rfl rfl rfl h2 h7
theorem m30:zIP FM30:=zNU
theorem m33:zLz FM33:=zJU (na:=31) (nf:=28) (nr:=29) (nw:=32) (ne:=0) rfl rfl rfl rfl rfl h31 h28 h29 h32 m30
theorem h35n (Q:R->Prop)(h:Q (ratD 1,.cl)):EvP (F35 [.non]) Q:=by
 (walk_at "d");unfold b35;(walk_at "st");(walk_at "w");refine⟨(.bl true,.cl),rfl,true,rfl,?_⟩;(walk_at "w");exact h
theorem h35 (t:Rat)(Q:R->Prop)(h:Q (ratD t,.cl)):EvP (F35 [ratD t]) Q:=by
 (walk_at "d");unfold b35;(walk_at "st");(walk_at "w");refine⟨(.bl false,.cl),rfl,false,rfl,?_⟩;(walk_at "w");exact h
theorem h39:zTn F39:=zQw
theorem h40:zLu F40:=λi Q h=>zL8 h
theorem h41:zLx F41:=zJQ
theorem h42:LowF F42:=zSM
theorem h43:zDo F43:=zKV (nr:=42) rfl h42
theorem h44:zDn F44:=zKP (nr:=42) rfl h42
theorem h45:zOl F45:=zND (nw:=40) rfl h40
theorem h46:zOk F46:=zNB (nl:=42) rfl h42
def I255 (i:Int):Prop:=0<=i/\i<=255
theorem h47 (s:Rat)(r g b:Int)(n:Nat)(Q:R->Prop)(hs:RB n s)(l:n<=10000000)(h1:I255 r)(h2:I255 g)(h3:I255 b)(h:Q (fmD (zC1 s r g b),.cl)):EvP (F47 [ratD s,inkD r g b]) Q:=by
 have e1:=zEu h1.1 h1.2;have e2:=zEu h2.1 h2.2;have e3:=zEu h3.1 h3.2;have ef:fmD (zC1 s r g b)=rsD [1 - s,s,s*(r:Rat),s*(g:Rat),s*(b:Rat)]:=by unfold fmD zC1;simp only[Rat.mul_comm s]
 rw[ef] at h;(walk_at "d");unfold b47 inkD;(walk_at "st");(walk_at "w");refine h43 1 s 1 n _ zDe hs (by omega) ?_;(walk_at "w");refine zEV rfl (by exact zzb rfl) ?_;(walk_at "w");refine h44 s (r:Rat) n 8 _ hs e1 (by omega) ?_;(walk_at "w");refine zEV rfl (by exact zzb rfl) ?_;(walk_at "w");refine h44 s (g:Rat) n 8 _ hs e2 (by omega) ?_;(walk_at "w");refine zEV rfl (by exact zzb rfl) ?_;(walk_at "w");refine h44 s (b:Rat) n 8 _ hs e3 (by omega) ?_;(walk_at "w");refine zK4 ?_;(walk_at "w");refine zRE ?_;(walk_at "w");exact h
theorem h55 (c:Int)(Q:R->Prop)(h:∀ r g b:Int,I255 r->I255 g->I255 b->Q (inkD r g b,.cl)):EvP (F55 [.int c]) Q:=by
 have md:∀ x:Int,I255 (x.fmod 256):=λx=>by
  have d1:=xX x (show (0:Int) < 256 by decide);have d2:=fmod_lt_of_pos x (show (0:Int) < 256 by decide);exact⟨d1,by omega⟩
 (walk_at "d");unfold b55;(walk_at "st");refine zAI ?_;(walk_at "e");refine zBB (by decide) ?_;(walk_at "e");refine zCM (zBZ (by decide) (by decide)) ?_;(walk_at "e");refine zBB (by decide) ?_;(walk_at "e");refine zCM (zBZ (by decide) (by decide)) ?_;(walk_at "e");refine zBB (by decide) ?_;have d1:=xX (c.fdiv 256) (show (0:Int) < 3 by decide);have d2:=fmod_lt_of_pos (c.fdiv 256) (show (0:Int) < 3 by decide);obtain⟨g,hg,eg⟩:∃ g:Int,I255 g/\atI [D.int 255,.int 0,.int ((c.fdiv 3).fmod 256)] ((c.fdiv 256).fmod 3)=some (.int g):=by
  generalize (c.fdiv 256).fmod 3=i at d1 d2;have cases3:i=0\/i=1\/i=2:=by omega
  rcases cases3 with rfl | rfl | rfl
  .exact ⟨255,⟨by decide,by decide⟩,rfl⟩
  .exact ⟨0,⟨by decide,by decide⟩,rfl⟩
  .exact ⟨_,md _,rfl⟩
 refine zA9 eg (n_cl ?_);(walk_at "e");refine zCM (zBZ (by decide) (by decide)) ?_;(walk_at "e");refine zBB (by decide) ?_;(walk_at "e");exact h _ _ _ (md _) hg (md _)
def At3F (F:List D->Option R):Prop:=∀ (x:Int) (m:Nat) (Q:R->Prop),m<=10->(∀ q:Rat,RB 41 q->Q (ratD q,.cl))->EvP (F [.int x,.int m]) Q
theorem h48:At3F F48:=λx m Q hm h=>by
 (walk_at "d");unfold b48;(walk_at "st");refine zAI ?_;(walk_at "e");refine zBB (by decide) ?_;have d1:=xX x (show (0:Int) < 4 by decide);have d2:=fmod_lt_of_pos x (show (0:Int) < 4 by decide);obtain⟨b,b1,b2,eb⟩:∃ b:Int,1<=b/\b<=4/\atI [D.int 1,.int 2,.int 4,.int 3] (x.fmod 4)=some (.int b):=by
  generalize x.fmod 4=i at d1 d2;have cases4:i=0\/i=1\/i=2\/i=3:=by omega
  rcases cases4 with rfl | rfl | rfl | rfl
  .exact ⟨1,by decide,by decide,rfl⟩
  .exact ⟨2,by decide,by decide,rfl⟩
  .exact ⟨4,by decide,by decide,rfl⟩
  .exact ⟨3,by decide,by decide,rfl⟩
 refine zA9 eb ?_;(walk_at "e");refine zHE rfl ?_;(walk_at "w");refine zCM (zBZ (by decide) (by decide)) ?_;(walk_at "w");refine zBA (zCu (by omega)) ?_;(walk_at "w");refine zBB (by have:=Int.mul_pos (show 0 < b by omega) (show (0:Int) < m+2 by omega);omega) ?_;(walk_at "w");refine h42 _ _ _ (by omega) ?_;(walk_at "w");have k0:=Int.mul_pos (show 0 < b by omega) (show (0:Int) < m+2 by omega);have k1:b*((m:Int)+2)<=4*12:=Int.mul_le_mul b2 (by omega) (by omega) (by decide);have e1:=xX (x.fdiv 4) (show (0:Int) < b*(m+2)+1 by omega);have e2:=fmod_lt_of_pos (x.fdiv 4) (show (0:Int) < b*(m+2)+1 by omega);exact h _ (zEl (by omega) (zCY (k:=100) (by omega) (by decide)) (zCY (k:=100) (by omega) (by decide)))
structure Kq (O μ2:Mem):Prop where
 le:O.length<=μ2.length
 kp:∀ x,x < O.length->μ2[x]?=O[x]?
theorem zBS :Kq O (O++L):=⟨by rw[qQ];omega,λx hx=>getElem?_append_left hx⟩
theorem zSR :Kq O O:=⟨le_refl _,λ_ _=>rfl⟩
theorem Kq.trans {μ2:Mem}(a:Kq O μ2)(b:Kq μ2 Y8):Kq O Y8:=⟨le_trans a.le b.le,λx hx=>(b.kp x (xQ hx a.le)).trans (a.kp x hx)⟩
theorem Kq.ll {μ2:Mem}(k:Kq O μ2)(e:Ll O n l):Ll μ2 n l:=e.keep (k.kp n e.lt.1) λp hp=>k.kp p.1 (e.lt.2 p hp)
theorem Kq.get {μ2:Mem}{n:Nat}(k:Kq O μ2)(e:O[n]?=some ws):μ2[n]?=some ws:=(k.kp n (zzg e).1).trans e
theorem Kq.set {μ2:Mem}(k:Kq O μ2)(h:O.length<=n):Kq O (μ2.set n ws):=⟨by rw[length_set];exact k.le,λx hx=>(getElem?_set_ne (by omega)).trans (k.kp x hx)⟩
theorem Kq.app {μ2:Mem}(k:Kq O μ2):Kq O (μ2++L):=k.trans zBS
theorem zFb (e:Ll O n l):∀ p∈l,p.1≠n:=λp hp z=>by
 have h1:=e.row p hp;rw[z,e.top] at h1;have h2:=xj h1;cases l with
 | nil=>exact absurd hp (by simp)
 | cons q l =>
  cases h3:p.2 with
  | nil=>rw[h3] at h2;cases h2
  | cons d ds=>rw[h3] at h2;cases h2
structure Rw (O:Mem)(n b:Nat)(l:Lp)(rows:List (List D)):Prop where
 ll:Ll O n l
 lo:∀ p∈l,b<=p.1
 top:b<=n
 snd:l.map (λp=>p.2)=rows
theorem Rw.len (e:Rw O n b l rows):l.length=rows.length:=by rw[<- e.snd,qy]
theorem Rw.dr (e:Rw O n b l rows):drW O (.loc n)=some (.lst (rows.map .lst)):=by
 rw[e.ll.dr,<- e.snd,map_map]
 rfl
theorem Rw.keep {μ2:Mem}(e:Rw O n b l rows)(k:Kq O μ2):Rw μ2 n b l rows:=⟨k.ll e.ll,e.lo,e.top,e.snd⟩
theorem Rw.lt (e:Rw O n b l rows):n < O.length:=e.ll.lt.1
theorem Rw.below (e:Rw O n b l rows)(h:c<=b):Rw O n c l rows:=⟨e.ll,λp hp=>le_trans h (e.lo p hp),le_trans h e.top,e.snd⟩
theorem Rw.at (e:Rw O n b l rows){j:Nat}(h:rows[j]?=some ds):∃ m,l[j]?=some (m,ds):=by
 rw[<- e.snd,List.getElem?_map] at h;obtain⟨p,h1,h2⟩:=yq.mp h;exact⟨p.1,by rw[h1,<- h2]⟩
theorem zKW (e:Ll O n l)(h:O[r]?=some (ds.map .dat))(hr:r≠n):Ll (O.set n (l.map (λp=>W.loc p.1)++[.loc r])) n (l++[(r,ds)]):=by
 refine⟨?_,λp hp=>?_⟩
 .rw [getElem?_set_self e.lt.1,xJ]
  rfl
 .rcases mem_append.mp hp with z | z
  .rw [getElem?_set_ne (Ne.symm (zFb e p z))];exact e.row p z
  .rw [mem_singleton.mp z,getElem?_set_ne (Ne.symm hr)];exact h
theorem zFN {U:Type}{J:Gm}{Y:Dm}{nm:Str}{N n b:Nat}{ms:List Nat}{src el:ME}{G:List (Option W)}{O0 O:Mem}{l:Lp}{as:List U}{u v:U->List D}{Q:MR->Prop}(hs:EvP (evSrc J Y src ⟨G,O0⟩) λr=>r=(.live n,O))(e:Rw O n b l (as.map u))(hN:(mask none ms G).length=N)(hl:as.length<=100)
  (he:∀ (L:Mem) (m:Nat) (a:U),a∈as->(O++L)[m]?=some ((u a).map .dat)->EvP (evM J Y el ⟨mask none ms G++[some (.loc m)],O++L⟩) λr=>r=(.loc (O++L).length,O++L++[(v a).map .dat]))
  (hQ:∀ (L:Mem) (l':Lp),Rw (O++L) (O.length+as.length) O.length l' (as.map v)->Q (.loc (O.length+as.length),O++L)) :
  EvP (evM J Y (.comp N ms nm src el) ⟨G,O0⟩) Q:=by
 obtain⟨r,er,rfl⟩:=hs;refine zGJ ⟨_,er,?_⟩;have ll:=e.len;rw[qy] at ll;obtain⟨y,s',M,ey,⟨o,p1,p2,p3⟩,p4⟩:=zGb (t:=tgM N) (e:=evM J Y el) (src:=.live n) (s:=⟨mask none ms G++[none],O⟩) (l.map λp=>.loc p.1)
  (λj s d=>∃ o:Option W,s=⟨mask none ms G++[o],O++(as.take j).map λa=>(v a).map W.dat⟩/\d=news O.length j/\j<=as.length) (λj s d zy136=>by obtain⟨o,p1,_,_⟩:=zy136;subst p1;exact zAa e.ll.top) (λj w s d ew zz115=>by
   obtain⟨o,p1,p2,p3⟩:=zz115;subst p1 p2;rw[List.getElem?_map] at ew;obtain⟨p,ep,rfl⟩:=yq.mp ew;have hj:j < as.length:=by rw[<- ll];exact(zzg ep).1
   have ea:as[j]?=some as[j]:=getElem?_eq_getElem hj;have e2:p.2=u as[j]:=by
    have h1:(l.map λp=>p.2)[j]?=some p.2:=by rw[List.getElem?_map,ep];rfl
    rw[e.snd,List.getElem?_map,ea] at h1;exact(xj h1).symm
   have mp:=mem_of_getElem? ep;have hr:=e.ll.row p mp;rw[e2] at hr;have lm:(O++(as.take j).map λa=>(v a).map W.dat).length=O.length+j:=by rw[qQ,qy,length_take];omega
   refine⟨by rw[zCE];omega,⟨mask none ms G++[some (.loc p.1)],O++(as.take j).map λa=>(v a).map W.dat⟩,(.loc (O++(as.take j).map λa=>(v a).map W.dat).length,(O++(as.take j).map λa=>(v a).map W.dat)++[(v as[j]).map .dat]),?_,(he _ p.1 as[j] (mem_of_getElem? ea) (zAa hr)).eq,some (.loc p.1),?_,?_,by omega⟩
   .unfold tgM;dsimp only;rw[set_append_right _ _ (by omega),hN,sub_self]
    rfl
   .rw [take_add_one,ea,Option.toList_some,xJ,q0];rfl
   .rw [zDC,lm]) ⟨none,by rw[take_zero,map_nil,append_nil],rfl,zero_le _⟩
 rw[qy,ll] at p1 p2;subst p1;rw[take_length] at p4;have e2:y=(news O.length as.length,O++as.map λa=>(v a).map W.dat):=Prod.ext p2 p4.symm;refine⟨y,M,ey,by rw[p2,zCE];omega,?_⟩;rw[e2];have lm:(O++as.map λa=>(v a).map W.dat).length=O.length+as.length:=by rw[qQ,qy]
 dsimp only;rw[lm,q0];have im:∀ p∈(List.range as.length).map (λj=>(O.length+j,((as[j]?).map v).getD [])),∃ j,j < as.length/\∃ a,as[j]?=some a/\p=(O.length+j,v a):=λp hp=>by
  obtain⟨j,hj,rfl⟩:=mem_map.mp hp;have hj:=mem_range.mp hj;exact⟨j,hj,as[j],getElem?_eq_getElem hj,by rw[getElem?_eq_getElem hj];rfl⟩
 refine hQ _ ((List.range as.length).map λj=>(O.length+j,((as[j]?).map v).getD [])) ⟨⟨?_,λp hp=>?_⟩,λp hp=>?_,Nat.le_add_right _ _,?_⟩
 .rw [<- q0,getElem?_append_right (by rw[lm];exact le_refl _),lm,sub_self,map_map]
  rfl
 .obtain ⟨j,hj,a,ea,rfl⟩:=im p hp;dsimp only;rw[<- q0,getElem?_append_left (by rw[lm];omega),getElem?_append_right (by omega),Nat.add_sub_cancel_left,List.getElem?_map,ea]
  rfl
 .obtain ⟨j,hj,a,ea,rfl⟩:=im p hp;exact Nat.le_add_right _ _
 .rw [map_map];apply ext_getElem?;intro i;rw[List.getElem?_map,List.getElem?_map];by_cases q:i < as.length
  .rw [getElem?_range q,getElem?_eq_getElem q];simp[getElem?_eq_getElem q]
  .rw [getElem?_eq_none (by rw[length_range];omega),getElem?_eq_none (by omega)]
   rfl
theorem zHh {U:Type}{J:Gm}{Y:Dm}{nm:Str}{N m:Nat}{ms:List Nat}{src el:ME}{G:List (Option W)}{O:Mem}{as:List U}{u v:U->D}{Q:MR->Prop}(hs:EvP (evSrc J Y src ⟨G,O⟩) λr=>r=(.live m,O))(e:O[m]?=some ((as.map u).map .dat))(hN:(mask none ms G).length=N)(hl:as.length<=100)
  (he:∀ a∈as,EvP (evM J Y el ⟨mask none ms G++[some (.dat (u a))],O⟩) λr=>r=(.dat (v a),O)) (hQ:Q (.loc O.length,O++[(as.map v).map .dat])) :
  EvP (evM J Y (.comp N ms nm src el) ⟨G,O⟩) Q:=by
 obtain⟨r,er,rfl⟩:=hs;refine zGJ ⟨_,er,?_⟩;obtain⟨y,s',M,ey,⟨o,p1,p2⟩,p4⟩:=zGb (t:=tgM N) (e:=evM J Y el) (src:=.live m) (s:=⟨mask none ms G++[none],O⟩) ((as.map u).map .dat)
  (λj s d=>∃ o:Option W,s=⟨mask none ms G++[o],O⟩/\d=((as.map v).take j).map W.dat) (λj s d zy137=>by obtain⟨o,q1,_⟩:=zy137;subst q1;exact e) (λj w s d ew zz116=>by
   obtain⟨o,q1,q2⟩:=zz116;subst q1 q2;rw[List.getElem?_map,List.getElem?_map] at ew;obtain⟨d1,ew1,rfl⟩:=yq.mp ew;obtain⟨a,ea,rfl⟩:=yq.mp ew1;refine⟨by rw[qy,length_take,qy];omega,⟨mask none ms G++[some (.dat (u a))],O⟩,(.dat (v a),O),?_,(he a (mem_of_getElem? ea)).eq,some (.dat (u a)),rfl,?_⟩
   .unfold tgM;dsimp only;rw[set_append_right _ _ (by omega),hN,sub_self]
    rfl
   .rw [take_add_one,List.getElem?_map,ea,xJ]
    rfl) ⟨none,rfl,rfl⟩
 rw[qy,qy] at p2;subst p1;have e2:y=((as.map v).map W.dat,O):=Prod.ext (by rw[p2,take_of_length_le (by rw[qy];exact le_refl _)]) p4.symm;refine⟨y,M,ey,by rw[e2];show ((as.map v).map W.dat).length<=_;rw[qy,qy];omega,?_⟩;rw[e2];exact hQ
def Six (ps:List Pt):Prop:=ps.length<=6/\∀ p∈ps,PB 90 p
theorem zBp {i:Int}(h:i.natAbs<=100):RB 90 (i:Rat):=zD8 (zCY (k:=100) h (by decide)) (by decide)
theorem h49 (w h:Nat)(x0 x1 x2 x3:Int)(xs:List D)(Q:R->Prop)(hw:w<=10)(hh:h<=10)(hQ:∀ ps:List Pt,Six ps->Q (zF9 ps,.fr)):EvP (F49 [.lst (.int x0::.int x1::.int x2::.int x3::xs),.int w,.int h]) Q:=by
 have md:∀ (x:Int) (n:Nat),n<=10->0<=x.fmod (n+1)/\x.fmod (n+1)<=10:=λx n hn=>by
  have d1:=xX x (show (0:Int) < n+1 by omega);have d2:=fmod_lt_of_pos x (show (0:Int) < n+1 by omega);omega
 have a0:=md x0 w hw;have a1:=md x1 h hh;have a2:=md x2 w hw;have a3:=md x3 h hh;(walk_at "d");unfold b49;(walk_at "st");refine zAI (zDN (zAc (zAc (zBY (zAH rfl (zAN (zA9 (d:=.int x0) (zAn (j:=0) rfl) ?_)))))));(walk_at "e");refine zBB (by omega) ?_;(walk_at "e");refine zAI (zDN (zAc (zAc (zBY (zAH rfl (zAN (zA9 (d:=.int x1) (zAn (j:=1) rfl) ?_)))))));(walk_at "e");refine zBB (by omega) ?_;(walk_at "e");refine zAI (zDN (zAc (zAc ?_)));(walk_at "e");refine zA9 (d:=.int x2) (zAn (j:=2) rfl) ?_;(walk_at "e");refine zBB (by omega) ?_;(walk_at "e");refine zAI (zDN (zAc (zAc ?_)));(walk_at "e");refine zA9 (d:=.int x3) (zAn (j:=3) rfl) ?_;(walk_at "e");refine zBB (by omega) ?_;(walk_at "e");generalize x0.fmod ((w:Int)+1)=y0 at a0;generalize x1.fmod ((h:Int)+1)=y1 at a1;generalize x2.fmod ((w:Int)+1)=y2 at a2;generalize x3.fmod ((h:Int)+1)=y3 at a3;have q:=hQ [(((y0 - 1:Int):Rat),((y1 - 1:Int):Rat)),(((y0 - 1+1+y2:Int):Rat),((y1 - 1:Int):Rat)),(((y0 - 1+1+y2:Int):Rat),((y1 - 1+1+y3:Int):Rat)),(((y0 - 1:Int):Rat),((y1 - 1+1+y3:Int):Rat))] ⟨by show 4<=6;decide,λp hp=>by
  simp only[mem_cons,not_mem_nil,or_false] at hp;rcases hp with rfl | rfl | rfl | rfl
  .exact ⟨zBp (by omega),zBp (by omega)⟩
  .exact ⟨zBp (by omega),zBp (by omega)⟩
  .exact ⟨zBp (by omega),zBp (by omega)⟩
  .exact ⟨zBp (by omega),zBp (by omega)⟩⟩
 (walk_at "w");simp only[zEN];exact q
theorem idx (e:((rngL 0 n).map W.dat)[j]?=some y):y=.dat (.int (j:Int))/\j < n:=by
 have hj:j < n:=by
  have:=(zzg e).1;rw[qy,zAt] at this;exact this
 unfold rngL at e;rw[map_map,List.getElem?_map,getElem?_range hj] at e;have:=(xj e).symm;exact⟨by rw[this];simp,hj⟩
theorem nrng :((rngL 0 n).map W.dat).length=n:=by rw[qy,zAt]
abbrev zDZ (xs:List Int):List W:=(xs.map D.int).map .dat
theorem zA1 {O:Mem}{ws:List W}:(O++[ws])[O.length]?=some ws:=by rw[getElem?_append_right (le_refl _),sub_self];rfl
theorem zFc {O:Mem}{ws vs:List W}:(O++[ws]).set O.length vs=O++[vs]:=by rw[set_append_right _ _ (le_refl _),sub_self];rfl
theorem nine {xs:List Int}(h:xs.length=9):∃ a b c d e f g i j,xs=[a,b,c,d,e,f,g,i,j]:=by
 match xs,h with
 | [a,b,c,d,e,f,g,i,j],_=>exact⟨a,b,c,d,e,f,g,i,j,rfl⟩
def shI (c:Int)(w h:Nat)(O:Mem)(j:Nat)(s:Mst):Prop:=∃ (x3:Int) (o5 o6 o7 o8:Option W) (O1:Mem) (l:Lp) (rs:List (List Pt)),s=⟨[some (.dat (.int c)),some (.dat (.int (w:Int))),some (.dat (.int (h:Int))),some (.dat (.int x3)),some (.loc O.length),o5,o6,o7,o8],O1⟩/\Kq O O1/\Rw O1 O.length O.length l (rs.map λps=>ps.map ptD)/\rs.length=j/\∀ ps∈rs,Six ps
theorem m50 (c:Int)(w h:Nat)(hw:w<=10)(hh:h<=10)(O:Mem)(Q:MR->Prop)(hQ:∀ (O1:Mem) (n:Nat) (l:Lp) (rs:List (List Pt)),Kq O O1->Rw O1 n O.length l (rs.map λps=>ps.map ptD)->rs.length<=2->(∀ ps∈rs,Six ps)->Q (.loc n,O1)):EvP (FM50 [.dat (.int c),.dat (.int (w:Int)),.dat (.int (h:Int))] O) Q:=by
 refine zDH rfl (by decide) ?_;unfold mb50;show EvP (evSs' GL1 D10 _ ⟨[some (.dat (.int c)),some (.dat (.int (w:Int))),some (.dat (.int (h:Int))),none,none,none,none,none,none],O⟩) _;refine zAB (zA6 (zAf rfl (zAc (zAc (zAH (zAG rfl zAJ) (zAN (zBB (by decide) (zAN (zDt (zAo rfl (zAW ?_)))))))))));(walk_at "s");refine zAB (zA6 (zDs (zAg ⟨zero_le _,zAW ?_⟩)));(walk_at "s");have d1:=xX c (show (0:Int) < 8 by decide);have d2:=fmod_lt_of_pos c (show (0:Int) < 8 by decide);obtain⟨k,hk,ek⟩:∃ k:Nat,k<=2/\atI (([1,1,2,1,0,1,2,1]:List Int).map λi=>W.dat (.int i)) (c.fmod 8)=some (.dat (.int (k:Int))):=by
  generalize c.fmod 8=i at d1 d2;have cases8:i=0\/i=1\/i=2\/i=3\/i=4\/i=5\/i=6\/i=7:=by omega
  rcases cases8 with rfl | rfl | rfl | rfl | rfl | rfl | rfl | rfl
  .exact ⟨1,by decide,rfl⟩
  .exact ⟨1,by decide,rfl⟩
  .exact ⟨2,by decide,rfl⟩
  .exact ⟨1,by decide,rfl⟩
  .exact ⟨0,by decide,rfl⟩
  .exact ⟨1,by decide,rfl⟩
  .exact ⟨2,by decide,rfl⟩
  .exact ⟨1,by decide,rfl⟩
 refine zAB (zCA (zDR (m_ix (zAf rfl ?_))));refine zOW ?_;(walk_at "w");refine zI5 rfl ?_;refine zAf rfl (zAc (zAH (zAG rfl zAJ) (zAN (zBB (by decide) (zAo rfl (zDE zA1 ek ⟨_,rfl,by omega,?_⟩))))));rw[toNat_natCast];have kM:Kq O (O++[[]]++[(([1,1,2,1,0,1,2,1]:List Int).map λi=>W.dat (.int i))]):=zBS.app;have tM:(O++[[]]++[(([1,1,2,1,0,1,2,1]:List Int).map λi=>W.dat (.int i))])[O.length]?=some []:=zAa zA1;refine zDJ (s:=⟨_,_⟩) ((rngL 0 k).map .dat) (shI c w h O) (λj s _=>rfl) ?_ ?_ ⟨_,none,none,none,none,_,[],[],rfl,kM,⟨⟨tM,λp hp=>absurd hp (by simp)⟩,λp hp=>absurd hp (by simp),le_refl _,rfl⟩,rfl,by simp⟩
 .rintro j y s ey ⟨x3,o5,o6,o7,o8,O1,l,rs,rfl,kq,Rr,hj,hs⟩;obtain⟨rfl,hj2⟩:=idx ey;refine⟨_,rfl,?_⟩;dsimp only;(walk_at "s");have ln:O.length < O1.length:=Rr.lt;have fin:∀ (x3:Int) (xs:List Int) (ps:List Pt) (o7 o8:Option W),Six ps ->
    shI c w h O (j+1) ⟨[some (.dat (.int c)),some (.dat (.int (w:Int))),some (.dat (.int (h:Int))),some (.dat (.int x3)),some (.loc O.length),some (.dat (.int (j:Int))),some (.loc O1.length),o7,o8],List.set (O1++[zDZ xs]++[(ps.map ptD).map W.dat]) O.length (l.map (λp=>W.loc p.1)++[W.loc (O1++[zDZ xs]).length])⟩:=λx3 xs ps o7 o8 h6=>by
   have Rx:=Rr.keep (μ2:=O1++[zDZ xs]++[(ps.map ptD).map .dat]) zBS.app;have ne:(O1++[zDZ xs]).length≠O.length:=by rw[qQ];omega
   refine⟨x3,_,_,o7,o8,_,l++[((O1++[zDZ xs]).length,ps.map ptD)],rs++[ps],rfl,(kq.app.app).set (le_refl _),⟨zKW Rx.ll zA1 ne,λp hp=>?_,le_refl _,?_⟩,by rw[qQ,hj];rfl,λx hx=>?_⟩
   .rcases mem_append.mp hp with z | z
    .exact Rr.lo p z
    .rw [mem_singleton.mp z];show O.length<=(O1++[zDZ xs]).length;rw[qQ];omega
   .rw [xJ,Rr.snd,xJ];rfl
   .rcases mem_append.mp hx with z | z
    .exact hs x z
    .rw [mem_singleton.mp z];exact h6
  refine zAB (zA6 (zDs (zAg ⟨zero_le _,zAW ?_⟩)));(walk_at "s");refine zAB (zCA (zDR (zAf rfl (zAN (zAo rfl ⟨_,rfl,by decide,?_⟩)))));refine zDJ (s:=⟨_,_⟩) ((rngL 0 9).map .dat) (λi s=>∃ (x3:Int) (o7:Option W) (xs:List Int),s=⟨[some (.dat (.int c)),some (.dat (.int (w:Int))),some (.dat (.int (h:Int))),some (.dat (.int x3)),some (.loc O.length),some (.dat (.int (j:Int))),some (.loc O1.length),o7,o8],O1++[zDZ xs]⟩/\xs.length=i) (λ_ _ _=>rfl) ?_ ?_ ⟨x3,o7,[],rfl,rfl⟩
  .rintro i y s ey ⟨x3,o7,xs,rfl,hx⟩;obtain⟨rfl,hi⟩:=idx ey;refine⟨_,rfl,?_⟩;dsimp only;(walk_at "s");refine zAB (zA6 (zAf rfl (zAc (zAc (zAH (zAG rfl zAJ) (zAN (zBA (zEq (by decide)) (zAN (zBB (by decide) (zAo rfl (zAW ?_)))))))))));(walk_at "s");refine zAB (zCP (zAO rfl (zAf rfl (zAc (zAH (zAG rfl zAJ) (zAN (zCM (zBZ (by decide) (by decide)) (zAo rfl ⟨_,_,rfl,zA1,by rw[qy,qy];omega,zAW (zAx ?_)⟩))))))));dsimp only;rw[zFc];exact⟨_,_,xs++[((x3*48271).fmod 2147483647).fdiv 11],by simp only[zDZ,xJ,map_cons,map_nil];rfl,by rw[qQ,hx];rfl⟩
  .rintro s ⟨x3,o7,xs,rfl,hx⟩;rw[nrng] at hx;obtain⟨a0,a1,a2,a3,a4,a5,a6,a7,a8,ex⟩:=nine hx;have dr6:drW (O1++[zDZ xs]) (.loc O1.length)=some (.lst (xs.map .int)):=zD3 zA1;have top:(O1++[zDZ xs])[O.length]?=some (l.map λp=>.loc p.1):=zAa Rr.ll.top;have ll4:(l.map λp=>W.loc p.1).length<=10000:=by rw[qy,Rr.len,qy,hj];omega
   refine zAW (zAB (zCU (zFz rfl (zBq (zAc (zAc (zAH (zAG rfl zAJ) (zAN (zCM (zBZ (by decide) (by decide)) (zAN (zBB (by decide) (zAN (zTd ?_)))))))))))));refine⟨_,rfl,λ_=>?_,λ_=>?_⟩
   .refine zAB (zCP (zAO rfl (zAf rfl (zAM rfl (zAD (zAH (zAG rfl dr6) (n_cl (zAD (zAH (zAG rfl zAJ) (n_cl (zAD (zAH (zAG rfl zAJ) (n_cl (zAe ?_))))))))))))));rw[ex];refine h49 w h a0 a1 a2 a3 _ _ hw hh λps h6=>?_
    refine n_fr (zI5 (zG3 ps) ⟨_,_,rfl,zAa (by rw[<- ex];exact top),ll4,zAW (zAx (zAW (zAx ?_)))⟩);dsimp only;rw[<- ex];exact fin x3 xs ps _ _ h6
   .refine zAB (zA6 (zDs (zAg ⟨zero_le _,zAW ?_⟩)));(walk_at "s");have dr6':∀ L:Mem,drW (O1++[zDZ xs]++L) (.loc O1.length)=some (.lst (xs.map .int)):=λL=>zD3 (zAa zA1)
    have at6:∀ (i:Nat) (x:Int),xs[i]?=some x->∀ {Q:R->Prop},Q (.int x,.cl)->EvP (ixD (.lst (xs.map .int)) (.int (i:Int))) Q:=λi x e {Q} q=>zA9 (zAn (by rw[List.getElem?_map,e];rfl)) q
    have e1:=xX a8 (show (0:Int) < 2 by decide);have e2:=fmod_lt_of_pos a8 (show (0:Int) < 2 by decide);obtain⟨m,hm,em⟩:∃ m:Nat,m<=4/\3+a8.fmod 2=(m:Int):=⟨(3+a8.fmod 2).toNat,by omega,by omega⟩;refine zAB (zCA (zDR (zAf rfl (zAc (zAN (zAc (zBY (zAH (zAG rfl (dr6' _)) (zAN (at6 8 a8 (by rw[ex];rfl) (zAN (zBB (by decide) (zDt (zAo rfl ⟨_,rfl,by omega,?_⟩))))))))))))));rw[em,toNat_natCast];refine zDJ (s:=⟨_,_⟩) ((rngL 0 m).map .dat) (λi s=>∃ (o7:Option W) (ps:List Pt),s=⟨[some (.dat (.int c)),some (.dat (.int (w:Int))),some (.dat (.int (h:Int))),some (.dat (.int x3)),some (.loc O.length),some (.dat (.int (j:Int))),some (.loc O1.length),o7,some (.loc (O1++[zDZ xs]).length)],O1++[zDZ xs]++[(ps.map ptD).map .dat]⟩/\ps.length=i/\∀ p∈ps,PB 90 p) (λ_ _ _=>rfl) ?_ ?_ ⟨o7,[],rfl,rfl,by simp⟩
    .rintro i y s ey ⟨o7,ps,rfl,hp,hb⟩;obtain⟨rfl,hi⟩:=idx ey;refine⟨_,rfl,?_⟩;dsimp only;(walk_at "s");have b1:2*i < xs.length:=by omega
     have b2:2*i+1 < xs.length:=by omega
     refine zAB (zCP (zAO rfl (zAf rfl (zDL (zAD (zAM rfl (zAD (zBY (zAH (zAG rfl (dr6' _)) (zAc (zAN (zAH (zAG rfl zAJ) (zBA (zCu (by decide)) ?_)))))))))))));rw[show (2:Int)*(i:Int)=((2*i:Nat):Int) by omega];refine at6 _ _ (getElem?_eq_getElem b1) (n_cl (zAD (zAH (zAG rfl zAJ) (n_cl (zAe ?_)))));refine h48 _ w _ hw λq1 r1=>n_cl (n_cl (zAD (zAM rfl (zAD (zBY (zAH (zAG rfl (dr6' _)) (zAc (zAc (zAN (zAH (zAG rfl zAJ) (zBA (zCu (by decide)) (zAN (zDt ?_)))))))))))))
     rw[show (2:Int)*(i:Int)+1=((2*i+1:Nat):Int) by omega];refine at6 _ _ (getElem?_eq_getElem b2) (n_cl (zAD (zAH (zAG rfl zAJ) (n_cl (zAe ?_)))));refine h48 _ h _ hh λq2 r2=>n_cl (n_cl (zAe ⟨by show 2<=10000;decide,zAo rfl ⟨_,_,rfl,zA1,by rw[qy,qy];omega,zAW (zAx ?_)⟩⟩))
     dsimp only;rw[zFc];refine⟨_,ps++[(q1,q2)],by simp only[xJ,map_cons,map_nil];rfl,by rw[qQ,hp];rfl,λp hq=>?_⟩;rcases mem_append.mp hq with z | z
     .exact hb p z
     .rw [mem_singleton.mp z];exact⟨r1.mono (by decide),r2.mono (by decide)⟩
    .rintro s ⟨o7,ps,rfl,hp,hb⟩;rw[nrng] at hp;refine zAW (zAB (zCP (zAO rfl (zAO rfl ⟨_,_,rfl,zAa top,ll4,zAW (zAx (zAW (zAx ?_)))⟩))));dsimp only;exact fin x3 xs ps _ _ ⟨by omega,hb⟩
 .rintro s ⟨x3,o5,o6,o7,o8,O1,l,rs,rfl,kq,Rr,hj,hs⟩;rw[nrng] at hj;exact zAW (zAB (zB1 (zAO rfl (zEK (hQ O1 _ l rs kq Rr (by omega) hs)))))
theorem zK8 (e:G[i]?=some (some (.fn n x,false)))(el:J.fns[n]?=some (x,F))(h:EvP (evE J a G) λy=>y.2≠.dt/\EvP (F [y.1]) λr=>r.2≠.dt/\Q r):EvP (evE J (.callv i a) G) Q:=by
 obtain⟨y,ey,ny,r,er,nr,q⟩:=h;refine⟨r,?_,q⟩;show zEb J.lm J.fns i (evE J a) G=_;unfold zEb;rw[e];show ((evE J a G).bind λx=>_)=_;rw[ey];show (if y.2=.dt then none else _)=_;rw[if_neg ny];have e3:fnvF J.fns n x [y.1]=some r:=by unfold fnvF;rw[el];exact(if_pos rfl).trans er
 rw[e3];show (if r.2=.dt then none else some r)=_;rw[if_neg nr]
def CV (f d d':D):Prop:=∀ (G:Dst) (i j:Nat) (Q:R->Prop),G[i]?=some (some (f,false))->G[j]?=some (some (d,false))->Q (d',.cl)->EvP (evE GL1 (.callv i (.var j)) G) Q
theorem zTY (el:GL1.fns[n]?=some (x,F))(h:∀ Q:R->Prop,Q (d',.cl)->EvP (F [d]) Q):CV (.fn n x) d d':=λG i j Q e1 e2 q =>
 zK8 e1 el (zAH e2 ⟨(λz=>nomatch z),h _ ⟨(λz=>nomatch z),q⟩⟩)
theorem zOd (el:GL1.lm[J]?=some (L,FL))(h:∀ Q:R->Prop,Q (d',.cl)->EvP (FL (d::dl)) Q):CV (.lam J L dl) d d':=λG i j Q e1 e2 q =>
 zNF e1 el (zAH e2 ⟨(λz=>nomatch z),h _ ⟨(λz=>nomatch z),q⟩⟩)
theorem m36 (hf:noL f=true){rows:List (List Rat)}(e:Rw O n b l (rows.map (List.map u)))(hl:rows.length<=100)(hr:∀ qs∈rows,qs.length<=100/\∀ q∈qs,CV f (u q) (v q)/\noL (v q)=true)
  (hQ:∀ (L:Mem) (l':Lp),Rw (O++L) (O.length+rows.length) O.length l' (rows.map (List.map v))->Q (.loc (O.length+rows.length),O++L)):EvP (FM36 [.loc n,.dat f] O) Q:=by
 refine zDH rfl (by decide) ?_;unfold mb36;show EvP (evSs' GL1 D3 _ ⟨[some (.loc n),some (.dat f)],O⟩) _;refine zAB (zB1 (zFN (as:=rows) (u:=List.map u) (v:=List.map v) (zBO (zAO rfl ⟨n,rfl,rfl⟩)) e rfl hl (λL m qs hq em=>?_) λL l' R'=>zEK (hQ L l' R')));show EvP (evM GL1 D3 _ ⟨[some (.loc n),some (.dat f),some (.loc m)],O++L⟩) _;obtain⟨h1,h2⟩:=hr qs hq;refine zHh (as:=qs) (u:=u) (v:=v) (zBO (zAO rfl ⟨m,rfl,rfl⟩)) em rfl h1 (λq mq=>?_) rfl;obtain⟨c1,c2⟩:=h2 q mq;exact zAf rfl (c1 _ 1 3 _ (zAG rfl zAJ) (zAG rfl zAJ) (zAo c2 rfl))
theorem zLo (hw:w<=4)(hh:h<=4)(hl:rs.length<=2)(hs:∀ ps∈rs,ps.length<=6):(allP w h rs).length<=400:=by
 have:=zDI (zEf w h) 72 rs λps hps=>by
  have a:=zF8 w h ps;have b:=hs ps hps;have c:ps.length*(w+h+4)<=6*12:=Nat.mul_le_mul b (by omega);omega
 have:=mul_le_mul_right 72 hl;have e:(allP w h rs).length=(rs.flatMap (zEf w h)).length:=rfl;omega
theorem zTU (hz:∀ z∈zs,PcB 90 w h z)(hw:w<=100)(hl:zs.length<=400)(c r:Int):RB 4000001 (dueZ zs c r):=by
 refine(zJF (L:=400) (B:=4600) (by decide) ⟨by rw[qy];exact hl,λq hq=>?_⟩).2.2;obtain⟨z,mz,rfl⟩:=mem_map.mp hq;have f:RB 2270 (zCq z):=(zK1 (hz z mz)).mono (by decide);have g:RB 2270 (zC7 z):=(zHi (hz z mz) hw).mono (by decide);have z0:RB 2270 (0:Rat):=(zD8 (n:=12) (i:=0) (zCY (k:=1) (by decide) (by decide)) (by decide)).mono (by decide);unfold dz;have a:RB 2270 (if z.r=r/\z.c < c then zCq z else 0):=by split<;>assumption
 have b:RB 2270 (if z.r=r/\z.c=c then zC7 z else 0):=by split<;>assumption
 exact(zD9 a b).mono (by decide)
structure Fl (w h:Nat)(rs:List (List Pt)):Prop where
 w1:1<=w
 w2:w<=4
 h1:1<=h
 h2:h<=4
 rl:rs.length<=2
 six:∀ ps∈rs,Six ps
theorem Fl.fb (f:Fl w h rs):FlB 90 w h rs:=⟨f.w1,by have:=f.w2;omega,f.h1,by have:=f.h2;omega,by have:=f.rl;omega,by decide,λps hp=>⟨by have:=(f.six ps hp).1;omega,(f.six ps hp).2⟩⟩
abbrev tabR (w h:Nat) (rs:List (List Pt)):List (List Rat):=(List.range h).map λr=>rowZ (allP w h rs) w r
theorem zBc (w h:Nat)(rs:List (List Pt)):(tabR w h rs).length=h:=by rw[qy,length_range]
theorem zBV (f:Fl w h rs):∀ qs∈tabR w h rs,qs.length<=100/\∀ q∈qs,RB 4000001 q:=λqs hq=>by
 obtain⟨r,_,rfl⟩:=mem_map.mp hq;have fb:=f.fb;have pc:∀ z∈allP w h rs,PcB 90 w h z:=zOi fb.w1 (by have:=fb.w2;omega) (by have:=fb.h2;omega) fb.r;have al:=zLo f.w2 f.h2 f.rl λps hp=>(f.six ps hp).1
 refine⟨by rw[zJZ];have:=f.w2;omega,λq hq=>?_⟩;obtain⟨i,hi,rfl⟩:=List.getElem_of_mem hq;have hi':i < w:=by rw[zJZ] at hi;exact hi
 have e2:=zJV (zs:=allP w h rs) (r:=r) (λz m=>(pc z m).c0) hi';rw[getElem?_eq_getElem hi] at e2;rw[xj e2];exact zTU pc (by have:=f.w2;omega) al _ _
theorem zRQ (f:Fl w h rs)(dr:drW O x=some (zBj rs))(hQ:∀ (L:Mem) (m:Nat) (l:Lp),Rw (O++L) m O.length l ((tabR w h rs).map (List.map ratD))->Q (.loc m,O++L)):EvP (FM33 [.dat (.int (w:Int)),.dat (.int (h:Int)),x] O) Q:=by
 have al:=zLo f.w2 f.h2 f.rl λps hp=>(f.six ps hp).1
 refine m33 90 w h rs x O Q f.fb (by omega) (by have:=mul_le_mul_right (24*90+101) al;omega) dr λL=>?_
 have T:=zSN (O++L) (allP w h rs) w h;have e:O++L++zBW (allP w h rs) w h++[news (O++L).length h]=O++(L++zBW (allP w h rs) w h++[news (O++L).length h]):=by simp only[q0]
 rw[e] at T ⊢;refine hQ _ _ _ ⟨T,λp hp=>?_,by rw[qQ];omega,?_⟩
 .obtain ⟨r,hr,rfl⟩:=zKQ hp;show O.length<=(O++L).length+r;rw[qQ];omega
 .unfold lpT;rw[map_map,map_map]
  rfl
theorem m37 (f:Fl w h rs)(dr:drW O x=some (zBj rs))(hQ:∀ (L:Mem) (m:Nat) (l:Lp),Rw (O++L) m O.length l ((tabR w h rs).map (List.map λq=>ratD (cov q)))->Q (.loc m,O++L)):EvP (FM37 [.dat (.int (w:Int)),.dat (.int (h:Int)),x] O) Q:=by
 refine zDH rfl (by decide) ?_;unfold mb37;show EvP (evSs' GL1 D4 _ ⟨[some (.dat (.int (w:Int))),some (.dat (.int (h:Int))),some x],O⟩) _;refine zAB (zB1 (zBR (F:=FM36) rfl (zAE (zBR (F:=FM33) rfl (zAE (zAO rfl (zAE (zAO rfl (zAE (zAO rfl (zAg ?_)))))))))));refine(show EvP (FM33 [.dat (.int (w:Int)),.dat (.int (h:Int)),x] O) _ from ?_);refine zRQ f dr λL m l R1=>?_
 refine zAE (zAf rfl (zC3 (d:=.fn 11 "cover") rfl (zAo rfl (zAg ?_))));refine(show EvP (FM36 [.loc m,.dat (.fn 11 "cover")] (O++L)) _ from ?_);refine m36 (f:=.fn 11 "cover") rfl (rows:=tabR w h rs) (u:=ratD) (v:=λq=>ratD (cov q)) R1 (by rw[zBc];have:=f.h2;omega) (λqs hq=>⟨(zBV f qs hq).1,λq mq=>⟨zTY (F:=F11) rfl λQ q1=>h11 q 4000001 Q ((zBV f qs hq).2 q mq) (by decide) (by decide) q1,rfl⟩⟩) λO3 l2 R2=>zEK ?_
 rw[q0] at R2 ⊢;exact hQ _ _ _ (R2.below (by rw[qQ];omega))
theorem zOL (h1:ws.length=np)(h2:np<=nN)
  (h:EvP (gp ⟨ws.map some++List.replicate (nN - np) none,O⟩) λo=>∃ s,o=.nx s/\EvP (ge s) λw=>∃ ds,capD ix s.G=some ds/\noLs ds=true/\EvP (Fg [w.1,.dat (.lam j L ds)] w.2) Q):EvP (lamM Fg j L ix np nN gp ge ws O) Q:=by
 obtain⟨o,e1,s,rfl,w,e2,ds,e3,e4,r,e5,q⟩:=h;refine zDH h1 h2 ⟨.rt r,?_,q⟩;rw[e1,qx];show retM (lamE Fg j L ix ge) s=_;unfold retM lamE;rw[e2,qx,e3,qx,if_pos e4,e5]
 rfl
theorem m38 (f:Fl w h rs)(ht:RB 80 t)(dr:drW O x=some (zBj rs))(hQ:∀ (L:Mem) (m:Nat) (l:Lp),Rw (O++L) m O.length l ((tabR w h rs).map (List.map λq=>ratD (cov q*t)))->Q (.loc m,O++L)):EvP (FM38 [.dat (.int (w:Int)),.dat (.int (h:Int)),x,.dat (ratD t)] O) Q:=by
 refine zOL rfl (by decide) ⟨_,rfl,_,rfl,?_⟩;show EvP (evM GL1 D5 me0 ⟨[some (.dat (.int (w:Int))),some (.dat (.int (h:Int))),some x,some (.dat (ratD t))],O⟩) _;unfold me0;refine zBR (F:=FM37) rfl (zAE (zAO rfl (zAE (zAO rfl (zAE (zAO rfl (zAg ?_)))))));refine(show EvP (FM37 [.dat (.int (w:Int)),.dat (.int (h:Int)),x] O) _ from ?_);refine m37 f dr λL m l R1=>⟨[ratD t],rfl,rfl,?_⟩
 refine m36 (f:=.lam 0 L0 [ratD t]) rfl (rows:=tabR w h rs) (u:=λq=>ratD (cov q)) (v:=λq=>ratD (cov q*t)) R1 (by rw[zBc];have:=f.h2;omega) (λqs hq=>⟨(zBV f qs hq).1,λq mq=>⟨zOd (FL:=FL0) rfl λQ q1=>?_,rfl⟩⟩) λO3 l2 R2=>?_
 .refine zOJ rfl rfl ?_;show EvP (evE G58 lb0 [some (ratD (cov q),false),some (ratD t,false)]) _;unfold lb0;(walk_at "w");refine h4 (cov q) t 4000001 80 _ (zGY ((zBV f qs hq).2 q mq) (by decide)) ht (by decide) ?_;(walk_at "w");exact q1
 rw[q0] at R2 ⊢;exact hQ _ _ _ (R2.below (by rw[qQ];omega))
abbrev zGT (a:Nat) (ink:D) (t:Rat):W:=.obj "Fill" ["shape","ink","strength"] [.loc a,.dat ink,.dat (ratD t)]
abbrev rubW (a:Nat) (t:Rat):W:=.obj "Rub" ["shape","strength"] [.loc a,.dat (ratD t)]
theorem m34 (e:Rw O n b l rows)(hl:rows.length<=100)(hn:∀ ds∈rows,noLs ds=true)(hQ:∀ (L:Mem) (m:Nat) (l':Lp),Rw (O++L) m O.length l' rows->Q (.loc m,O++L)):EvP (FM34 [.loc n] O) Q:=by
 refine zDH rfl (by decide) ?_;unfold mb34;show EvP (evSs' GL1 D2 _ ⟨[some (.loc n)],O⟩) _;have e':Rw O n b l (rows.map id):=by rw[map_id];exact e
 refine zAB (zB1 (zFN (as:=rows) (u:=id) (v:=id) (zBO (zAO rfl ⟨n,rfl,rfl⟩)) e' rfl hl (λL m ds hd em=>?_) λL l' R'=>zEK (hQ L _ l' (by rw[map_id] at R';exact R'))));exact zAf rfl (zFk (zAH (zAG rfl (zD3 em)) (zJH (zI5 (hn ds hd) rfl))))
theorem zKd {c:Str}{n:Nat}{L:List (Str×(Mst->Option MR))}{ws:List W}{O:Mem}{Q:MR->Prop}(h1:ws.length=n)(h:EvP (zEh L ⟨none::ws.map some,O⟩) λz=>Q (.obj c (L.map (·.1)) z.1,z.2)):EvP (zG6 c n L ws O) Q:=by
 obtain⟨z,e,q⟩:=h;exact⟨_,by unfold zG6;rw[if_pos h1,e];rfl,q⟩
theorem zEO (h:EvP (g s) λw=>EvP (zEh r ⟨s.G,w.2⟩) λz=>Q (w.1::z.1,z.2)):EvP (zEh ((x,g)::r) s) Q:=by
 obtain⟨w,e1,z,e2,q⟩:=h;exact⟨_,by unfold zEh;dsimp only;rw[e1,qx,e2];rfl,q⟩
theorem zOP (h:Q ([],s.O)):EvP (zEh [] s) Q:=⟨_,rfl,h⟩
def StO (o:D)(t:Rat):Prop:=(o=.non/\t=1)\/o=ratD t
theorem zNx (h:StO o t)(q:Q (ratD t,.cl)):EvP (F35 [o]) Q:=by
 rcases h with ⟨rfl,rfl⟩ | rfl
 .exact h35n Q q
 .exact h35 t Q q
theorem zSK (e:Rw O n b l rows)(hl:rows.length<=100)(hn:∀ ds∈rows,noLs ds=true)(ho:StO o t)(hQ:∀ (L:Mem) (m:Nat) (l':Lp),Rw (O++L) m O.length l' rows->Q (zGT m ink t,O++L)):EvP (zAd [.loc n,.dat ink,.dat o] O) Q:=by
 refine zKd rfl ?_;show EvP (zEh [("shape",evM GL1 D6 (.call 2 "own_shape" (.cons (.var 1) .nil))),("ink",evM GL1 D6 (.var 2)),("strength",evM GL1 D6 (.pur (.call 35 "strength_or_one" (.cons (.var 3) .nil))))] ⟨[none,some (.loc n),some (.dat ink),some (.dat o)],O⟩) _;refine zEO (zBR (F:=FM34) rfl (zAE (zAO rfl (zAg ?_))));refine m34 e hl hn λL m l' R'=>?_
 refine zEO (zAO rfl (zEO (zAf rfl (zAM rfl (zAD (zAH (zAG rfl zAJ) (n_cl (zAe ?_))))))));exact zNx ho (n_cl (zAo rfl (zOP (hQ L m l' R'))))
theorem mRub (e:Rw O n b l rows)(hl:rows.length<=100)(hn:∀ ds∈rows,noLs ds=true)(ho:StO o t)(hQ:∀ (L:Mem) (m:Nat) (l':Lp),Rw (O++L) m O.length l' rows->Q (rubW m t,O++L)):EvP (zAu [.loc n,.dat o] O) Q:=by
 refine zKd rfl ?_;show EvP (zEh [("shape",evM GL1 D7 (.call 2 "own_shape" (.cons (.var 1) .nil))),("strength",evM GL1 D7 (.pur (.call 35 "strength_or_one" (.cons (.var 2) .nil))))] ⟨[none,some (.loc n),some (.dat o)],O⟩) _;refine zEO (zBR (F:=FM34) rfl (zAE (zAO rfl (zAg ?_))));refine m34 e hl hn λL m l' R'=>?_
 refine zEO (zAf rfl (zAM rfl (zAD (zAH (zAG rfl zAJ) (n_cl (zAe ?_))))));exact zNx ho (n_cl (zAo rfl (zOP (hQ L m l' R'))))
theorem zMg (h:EvP (evM J Y a s) λx=>∃ c ns l w,x.1=.obj c ns l/\(c,fl,none)∈J.ob/\(ns.zip l).lookup fl=some w/\Q (w,x.2)):EvP (evM J Y (.fld a fl) s) Q:=by
 obtain⟨⟨x,m⟩,e,c,ns,l,w,rfl,h1,h2,q⟩:=h;refine⟨_,?_,q⟩;show fldM J.ob fl (evM J Y a) s=_;unfold fldM;rw[e,qx];show (if (c,fl,none)∈J.ob then _ else _)=_;rw[if_pos h1,h2]
 rfl
theorem zTJ (h:EvP (evE J a G) λx=>∃ c ns l d,x.1=.obj c ns l/\(c,fl,none)∈J.ob/\(ns.zip l).lookup fl=some d/\Q (d,.cl)):EvP (evE J (.fld a fl) G) Q:=by
 obtain⟨⟨x,k⟩,e,c,ns,l,d,rfl,h1,h2,q⟩:=h;refine⟨_,?_,q⟩;show one (evE J a) (fldD J.ob fl) G=_;unfold one;rw[e,qx];show (if (c,fl,none)∈J.ob then _ else _)=_;rw[if_pos h1,h2]
 rfl
def zHC (F:MF)(ob:W)(w h:Nat)(O:Mem)(v:List (List D)):Prop:=∀ Q:MR->Prop,(∀ (L:Mem) (m:Nat) (l:Lp),Rw (O++L) m O.length l v->Q (.loc m,O++L))->EvP (F [ob,.dat (.int (w:Int)),.dat (.int (h:Int))] O) Q
theorem zUa (f:Fl w h rs)(ht:RB 80 t)(h1:I255 r)(h2:I255 g)(h3:I255 b)(dr:drW O (.loc a)=some (zBj rs)):zHC zAj (zGT a (inkD r g b) t) w h O ((tabR w h rs).map (List.map λq=>fmD (zC1 (cov q*t) r g b))):=λQ hQ=>by
 refine zOL rfl (by decide) ?_;show EvP (evS' GL1 D8 (.set 3 _) ⟨[some (zGT a (inkD r g b) t),some (.dat (.int (w:Int))),some (.dat (.int (h:Int))),none],O⟩) _;refine zA6 (zBR (F:=FM38) rfl (zAE (zAO rfl (zAE (zAO rfl (zAE (zMg (zAO rfl ⟨_,_,_,_,rfl,by decide,rfl,zAE (zMg (zAO rfl ⟨_,_,_,_,rfl,by decide,rfl,zAg ?_⟩))⟩))))))));refine(show EvP (FM38 [.dat (.int (w:Int)),.dat (.int (h:Int)),.loc a,.dat (ratD t)] O) _ from ?_);refine m38 f ht dr λL m l R1=>⟨_,rfl,?_⟩
 (walk_at "s");refine zAO rfl ⟨[.obj "Fill" ["ink","strength"] [inkD r g b,ratD t]],rfl,rfl,?_⟩;refine m36 (f:=.lam 1 L1 [.obj "Fill" ["ink","strength"] [inkD r g b,ratD t]]) rfl (rows:=tabR w h rs) (u:=λq=>ratD (cov q*t)) (v:=λq=>fmD (zC1 (cov q*t) r g b)) R1 (by rw[zBc];have:=f.h2;omega) (λqs hq=>⟨(zBV f qs hq).1,λq mq=>⟨zOd (FL:=FL1) rfl λQ q1=>?_,rfl⟩⟩) λO3 l2 R2=>?_
 .refine zOJ rfl rfl ?_;show EvP (evE GL0 lb1 [some (ratD (cov q*t),false),some (.obj "Fill" ["ink","strength"] [inkD r g b,ratD t],false)]) _;unfold lb1;refine zAM rfl (zAD (zAH rfl (n_cl (zAD (zTJ (zAH rfl ⟨_,_,_,_,rfl,by decide,rfl,n_cl (zAe ?_)⟩))))));refine h14 (cov q*t) r g b 4000081 _ ((zDf (zGY ((zBV f qs hq).2 q mq) (by decide)) ht).mono (by decide)) (by decide) h1 h2 h3 ?_;exact n_cl q1
 rw[q0] at R2 ⊢;exact hQ _ _ _ (R2.below (by rw[qQ];omega))
theorem fRub (f:Fl w h rs)(ht:RB 80 t)(dr:drW O (.loc a)=some (zBj rs)):zHC zAy (rubW a t) w h O ((tabR w h rs).map (List.map λq=>fmD ⟨1 - cov q*t,0,0,0,0⟩)):=λQ hQ=>by
 refine zDH rfl (by decide) ?_;unfold zCX;show EvP (evSs' GL1 D9 _ ⟨[some (rubW a t),some (.dat (.int (w:Int))),some (.dat (.int (h:Int)))],O⟩) _;refine zAB (zB1 (zBR (F:=FM36) rfl (zAE (zBR (F:=FM38) rfl (zAE (zAO rfl (zAE (zAO rfl (zAE (zMg (zAO rfl ⟨_,_,_,_,rfl,by decide,rfl,zAE (zMg (zAO rfl ⟨_,_,_,_,rfl,by decide,rfl,zAg ?_⟩))⟩)))))))))));refine(show EvP (FM38 [.dat (.int (w:Int)),.dat (.int (h:Int)),.loc a,.dat (ratD t)] O) _ from ?_);refine m38 f ht dr λL m l R1=>?_
 refine zAE (zAf rfl (zC3 (d:=.fn 15 "rub_film") rfl (zAo rfl (zAg ?_))));refine(show EvP (FM36 [.loc m,.dat (.fn 15 "rub_film")] (O++L)) _ from ?_);refine m36 (f:=.fn 15 "rub_film") rfl (rows:=tabR w h rs) (u:=λq=>ratD (cov q*t)) (v:=λq=>fmD ⟨1 - cov q*t,0,0,0,0⟩) R1 (by rw[zBc];have:=f.h2;omega) (λqs hq=>⟨(zBV f qs hq).1,λq mq=>⟨zTY (F:=F15) rfl λQ q1=>h15 (cov q*t) 4000081 Q ((zDf (zGY ((zBV f qs hq).2 q mq) (by decide)) ht).mono (by decide)) (by decide) q1,rfl⟩⟩) λO3 l2 R2=>zEK ?_
 rw[q0] at R2 ⊢;exact hQ _ _ _ (R2.below (by rw[qQ];omega))
theorem idxs :∀ x∈rngL 0 n,∃ k:Nat,x=.int (k:Int)/\k < n:=λx hx=>by
 obtain⟨k,rfl,k0,k1⟩:=zDS hx;exact⟨k.toNat,by rw[show ((k.toNat:Nat):Int)=k by omega],by omega⟩
abbrev fsD (T:List (List (List Rat))):D:=.lst (T.map λr=>.lst (r.map rsD))
theorem h52 (T:List (List (List Rat)))(Q:R->Prop)(hl:T.length<=100)(hs:∀ r∈T,r.length<=100)(hQ:Q (.bl true,.cl)):EvP (F52 [fsD T,fsD T]) Q:=by
 (walk_at "d");unfold b52;(walk_at "st");refine zAI (zEU (zH5 (zH6 (zEx (zK7 (zAH rfl (zPt (x_bl (x_bl (cb_f ?_))))))))));refine zH7 (zBq (zB5 (zAH rfl (zGM (zB5 (zAH rfl (zGM ?_)))))));refine zQz (x_bl (zLf (zCc rfl (zBl (k_nx ?_)))));refine zAI (zDc (zJO (zB5 (zAH rfl (zGM ⟨_,rfl,by rw[qy];omega,?_⟩)))));rw[qy,toNat_natCast];have at1:∀ {i:Nat} {r:List (List Rat)},T[i]?=some r->atI (T.map λr=>D.lst (r.map rsD)) (i:Int)=some (.lst (r.map rsD)):=λ{i r} e=>zAn (by rw[List.getElem?_map,e];rfl)
 refine zDl (λxs G=>(∃ a b,G=[some (fsD T,false),some (fsD T,false),a,b])/\∀ x∈xs,∃ k:Nat,x=.int (k:Int)/\k < T.length) ?_ ?_ _ _ ⟨⟨none,none,rfl⟩,idxs⟩
 .rintro x xs G ⟨⟨a,b,rfl⟩,hk⟩;obtain⟨i,rfl,hi⟩:=hk x q8;have e1:T[i]?=some T[i]:=getElem?_eq_getElem hi;have hr:=hs _ (mem_of_getElem? e1);generalize T[i]=r at e1 hr;refine⟨_,rfl,?_⟩;(walk_at "s");refine zAI (zEU (zH5 (zH6 (zEx (zK7 (zBY (zAH rfl (zAH rfl (zA9 (at1 e1) (zPt (x_bl (x_bl (cb_f ?_)))))))))))));refine zH7 (zBq (zB5 (zBY (zAH rfl (zAH rfl (zA9 (at1 e1) (zGM (zB5 (zBY (zAH rfl (zAH rfl (zA9 (at1 e1) (zGM ?_)))))))))))));refine zQz (x_bl (zLf (zCc rfl (zBl (k_nx ?_)))));refine zAI (zDc (zJO (zB5 (zBY (zAH rfl (zAH rfl (zA9 (at1 e1) (zGM ⟨_,rfl,by rw[qy];omega,?_⟩))))))));rw[qy,toNat_natCast];have at2:∀ {j:Nat} {p:List Rat},r[j]?=some p->atI (r.map rsD) (j:Int)=some (rsD p):=λ{j p} e=>zAn (by rw[List.getElem?_map,e];rfl)
  refine zDl (λys G=>(∃ b,G=[some (fsD T,false),some (fsD T,false),some (.int (i:Int),false),b])/\∀ x∈ys,∃ k:Nat,x=.int (k:Int)/\k < r.length) ?_ ?_ _ _ ⟨⟨b,rfl⟩,idxs⟩
  .rintro y ys G ⟨⟨b,rfl⟩,hj⟩;obtain⟨j,rfl,hj2⟩:=hj y q8;have e2:r[j]?=some r[j]:=getElem?_eq_getElem hj2;generalize r[j]=p at e2;refine⟨_,rfl,?_⟩;(walk_at "s");refine zAI (zEU (zEx (zAM rfl (zAD (zBY (zBY (zAH rfl (zAH rfl (zA9 (at1 e1) (zAH rfl (zA9 (at2 e2) (n_cl (zAD (zBY (zBY (zAH rfl (zAH rfl (zA9 (at1 e1) (zAH rfl (zA9 (at2 e2) (n_cl (zAe ?_))))))))))))))))))))));refine h45 p _ ?_;refine n_cl (x_bl (x_bl (cb_f (zBl (k_nx (zBl ?_))))));exact⟨⟨_,rfl⟩,λy hy=>hj y (qJ _ hy)⟩
  .rintro G ⟨⟨b,rfl⟩,_⟩;refine k_nx (zBl ?_);exact⟨⟨_,_,rfl⟩,λy hy=>hk y (qJ _ hy)⟩
 .rintro G ⟨⟨a,b,rfl⟩,_⟩;refine k_nx ?_;(walk_at "w");exact hQ
theorem zOy (top:O[n]?=some (news m rows.length))(row:∀ (i:Nat) ds,rows[i]?=some ds->O[m+i]?=some (ds.map .dat))(hb:b<=n)(hm:b<=m):∃ l,Rw O n b l rows:=by
 have im:∀ p∈(List.range rows.length).map (λj=>(m+j,(rows[j]?).getD [])),∃ j ds,rows[j]?=some ds/\p=(m+j,ds):=λp hp=>by
  obtain⟨j,hj,rfl⟩:=mem_map.mp hp;have hj:=mem_range.mp hj;exact⟨j,rows[j],getElem?_eq_getElem hj,by rw[getElem?_eq_getElem hj];rfl⟩
 refine⟨(List.range rows.length).map λj=>(m+j,(rows[j]?).getD []),⟨by rw[map_map];exact top,λp hp=>?_⟩,λp hp=>?_,hb,?_⟩
 .obtain ⟨j,ds,e,rfl⟩:=im p hp;exact row j ds e
 .obtain ⟨j,ds,e,rfl⟩:=im p hp;exact le_trans hm (Nat.le_add_right _ _)
 .rw [map_map];apply ext_getElem?;intro i;rw[List.getElem?_map];by_cases q:i < rows.length
  .rw [getElem?_range q,getElem?_eq_getElem q];simp[getElem?_eq_getElem q]
  .rw [getElem?_eq_none (by rw[length_range];omega),getElem?_eq_none (by omega)]
   rfl
theorem zJd (rs:List (List Pt)):D.lst ((rs.map λps=>ps.map ptD).map .lst)=zBj rs:=by
 unfold zBj;rw[map_map]
 rfl
theorem Rw.shape (e:Rw O n b l (rs.map λps=>ps.map ptD)):drW O (.loc n)=some (zBj rs):=by rw[e.dr,zJd]
theorem zD1 {rs:List (List Pt)}:∀ ds∈rs.map (λps=>ps.map ptD),noLs ds=true:=λds hd=>by
 obtain⟨ps,_,rfl⟩:=mem_map.mp hd;exact zG3 ps
theorem zLc {rs:List (List Pt)}(hi:G[i]?=some (some (.loc n)))(hN:G.length=N)(e:Rw O n b l (rs.map λps=>ps.map ptD))(hl:rs.length<=100)(hQ:∀ (L:Mem) (m:Nat) (l':Lp),Rw (O++L) m O.length l' (rs.map λps=>ps.map ptD)->Q (.loc m,O++L)) :
  EvP (evM GL1 Y (.comp N [] nm (.it (.var i)) (.pur (.list (.var N)))) ⟨G,O⟩) Q:=by
 have hm:mask none [] G=G:=by unfold mask;simp
 refine zFN (as:=rs) (u:=λps=>ps.map ptD) (v:=λps=>ps.map ptD) (zBO (zAO hi ⟨n,rfl,rfl⟩)) e (by rw[hm];exact hN) hl (λL m ps hp em=>?_) λL l' R'=>hQ L _ l' R'
 rw[hm];have gN:(G++[some (W.loc m)])[N]?=some (some (.loc m)):=by rw[getElem?_append_right (by omega),hN,sub_self];rfl
 exact zAf rfl (zFk (zAH (zAG gN (zD3 em)) (zJH (zI5 (zG3 ps) rfl))))
theorem zKE (q:Rat):(q.num < 0)<->q < 0:=by rw[Rat.lt_iff];simp
theorem zLj (q:Rat):(q.num>(q.den:Int))<->1 < q:=by
 rw[Rat.lt_iff];simp only[gt_iff_lt];constructor<;>intro h<;>simpa using h
theorem m51 (f:Fl w h rs)(e:Rw O n b l (rs.map λps=>ps.map ptD))(hQ:∀ (O1:Mem) (m:Nat) (l':Lp),Kq O O1->Rw O1 m O.length l' ((tabR w h rs).map (List.map λq=>ratD (cov q)))->Q (.loc m,O1)):EvP (FM51 [.dat (.int (w:Int)),.dat (.int (h:Int)),.loc n] O) Q:=by
 refine zDH rfl (by decide) ?_;unfold mb51;show EvP (evSs' GL1 D11 _ ⟨[some (.dat (.int (w:Int))),some (.dat (.int (h:Int))),some (.loc n),none,none,none,none],O⟩) _;refine zAB (zA6 (zDs (zAg ⟨zero_le _,zAW ?_⟩)));(walk_at "s");have hrl:=f.rl;refine zAB (zCA (zBO (zBR (F:=FM33) rfl (zAE (zAO rfl (zAE (zAO rfl (zAE (zLc (i:=2) rfl rfl (e.keep zBS) (by omega) λO8 m1 l1 R1=>zAg ?_)))))))));refine(show EvP (FM33 [.dat (.int (w:Int)),.dat (.int (h:Int)),.loc m1] (O++[[]]++O8)) _ from ?_);refine zRQ f R1.shape λO3 m2 l2 R2=>⟨m2,rfl,?_⟩
 have tM:(O++[[]]++O8++O3)[O.length]?=some []:=zAa (zAa zA1);have kM:Kq O (O++[[]]++O8++O3):=zBS.app.app;have b2:O.length < (O++[[]]++O8).length:=by simp only[qQ,length_singleton];omega
 generalize (O++[[]]++O8).length=b1 at R2 b2;generalize O++[[]]++O8++O3=M at tM kM R2;have hT:=zBV f;have lT:(tabR w h rs).length<=100:=by rw[zBc];have:=f.h2;omega
 generalize tabR w h rs=T at R2 hT lT hQ;have l2T:l2.length=T.length:=by rw[R2.len,qy]
 have lM:O.length < M.length:=(zzg tM).1;have lS:∀ (j:Nat) (X:Mem),(M.set O.length (news M.length j)++X).length=M.length+X.length:=λj X=>by rw[qQ,length_set]
 refine zDJ (s:=⟨_,_⟩) (l2.map λp=>.loc p.1) (λj s=>∃ o4 o5 o6,s=⟨[some (.dat (.int (w:Int))),some (.dat (.int (h:Int))),some (.loc n),some (.loc O.length),o4,o5,o6],M.set O.length (news M.length j)++(T.take j).map λqs=>(qs.map λq=>ratD (cov q)).map W.dat⟩/\j<=T.length) ?_ ?_ ?_ ⟨none,none,none,?_,zero_le _⟩
 .rintro j s ⟨o4,o5,o6,rfl,hj⟩;show (M.set O.length (news M.length j)++_)[m2]?=_;refine zAa ?_;rw[getElem?_set_ne (by have:=R2.top;omega)];exact R2.ll.top
 .rintro j y s ey ⟨o4,o5,o6,rfl,hj⟩;rw[List.getElem?_map] at ey;obtain⟨p,ep,rfl⟩:=yq.mp ey;have hj2:j < T.length:=by rw[<- l2T];exact(zzg ep).1
  have eT:T[j]?=some T[j]:=getElem?_eq_getElem hj2;have mp:=mem_of_getElem? ep;have e2:p.2=T[j].map ratD:=by
   have h1:(l2.map λp=>p.2)[j]?=some p.2:=by rw[List.getElem?_map,ep];rfl
   rw[R2.snd,List.getElem?_map,eT] at h1;exact(xj h1).symm
  have hq:=hT _ (mem_of_getElem? eT);have rp:=R2.ll.row p mp;have lp:=R2.lo p mp;rw[e2] at rp;refine⟨_,rfl,?_⟩;dsimp only;(walk_at "s");generalize hS:M.set O.length (news M.length j)++(T.take j).map (λqs=>(qs.map λq=>ratD (cov q)).map W.dat)=S;have lS:S.length=M.length+j:=by rw[<- hS,qQ,length_set,qy,length_take];omega
  have tS:S[O.length]?=some (news M.length j):=by rw[<- hS];exact zAa (getElem?_set_self lM)
  have rS:S[p.1]?=some ((T[j].map ratD).map .dat):=by rw[<- hS];refine zAa ?_;rw[getElem?_set_ne (by omega)];exact rp
  refine zAB (zA6 (zDs (zAg ⟨zero_le _,zAW ?_⟩)));(walk_at "s");refine zAB (zCA (zBO (zAO rfl ⟨p.1,rfl,?_⟩)));refine zDJ (s:=⟨_,_⟩) ((T[j].map ratD).map .dat) (λi s=>∃ o6,s=⟨[some (.dat (.int (w:Int))),some (.dat (.int (h:Int))),some (.loc n),some (.loc O.length),some (.loc p.1),some (.loc S.length),o6],S++[((T[j].take i).map λq=>ratD (cov q)).map W.dat]⟩) (λi s zy138=>by obtain⟨o6,es⟩:=zy138;subst es;exact zAa rS) ?_ ?_ ⟨o6,rfl⟩
  .rintro i y s ey ⟨o6,rfl⟩;rw[List.getElem?_map,List.getElem?_map] at ey;obtain⟨d1,ey1,rfl⟩:=yq.mp ey;obtain⟨q,eq,rfl⟩:=yq.mp ey1;have hi:i < T[j].length:=(zzg eq).1;refine⟨_,rfl,?_⟩;dsimp only;(walk_at "s");have fin:∀ d:D,d=ratD (cov q)->EvP (evSs' GL1 D11 (.cons (.app (.var 5) (.var 6)) .nil) ⟨[some (.dat (.int (w:Int))),some (.dat (.int (h:Int))),some (.loc n),some (.loc O.length),some (.loc p.1),some (.loc S.length),some (.dat d)],S++[((T[j].take i).map λq=>ratD (cov q)).map W.dat]⟩) (KLM (λs=>∃ o6,s=⟨[some (.dat (.int (w:Int))),some (.dat (.int (h:Int))),some (.loc n),some (.loc O.length),some (.loc p.1),some (.loc S.length),o6],S++[((T[j].take (i+1)).map λq=>ratD (cov q)).map W.dat]⟩) (KM GL1 D11 (.cons (.app (.var 3) (.var 5)) .nil) (KLM (λs=>∃ o4 o5 o6,s=⟨[some (.dat (.int (w:Int))),some (.dat (.int (h:Int))),some (.loc n),some (.loc O.length),o4,o5,o6],M.set O.length (news M.length (j+1))++(T.take (j+1)).map λqs=>(qs.map λq=>ratD (cov q)).map W.dat⟩/\j+1<=T.length) (KM GL1 D11 (.cons (.ret (.var 3)) .nil) (KFM Q))))):=λd ed=>by
    subst ed;refine zAB (zCP (zAO rfl (zAO rfl ⟨_,_,rfl,zA1,by rw[qy,qy,length_take];omega,zAW (zAx ?_)⟩)));dsimp only;rw[zFc];refine⟨some (.dat (ratD (cov q))),?_⟩;rw[take_add_one,eq,Option.toList_some,xJ,xJ]
    rfl
   refine zAB (zCU (zFz rfl (zBq (zBY (zAH (zAG rfl zAJ) (zAN (zPz (zAN (c_lt ?_)))))))));by_cases c1:q < 0
   .rw [decide_eq_true ((zKE q).mpr c1)];refine⟨_,rfl,λ_=>?_,λz=>nomatch z⟩;refine zAB (zA6 (zAf rfl (zDL (zAD (zAN (n_cl (zAD (zAN (n_cl (zAe ⟨by show 2<=10000;decide,zAo rfl (zAW (zAx (zAW ?_)))⟩))))))))));(walk_at "s");refine zAB (zCU (zFz rfl (zBq (zBY (zAH (zAG rfl zAJ) (zAN (zDG (d:=.int 0) rfl (zBY (zAH (zAG rfl zAJ) (zAN (zDG (d:=.int 1) rfl (c_gt ?_))))))))))));refine⟨_,rfl,(λz=>absurd (show decide ((1:Int) < 0)=true from z) (by decide)),λ_=>zAx (zAW ?_)⟩;exact fin _ (by unfold cov;rw[if_pos c1];rfl)
   .rw [decide_eq_false (λz=>c1 ((zKE q).mp z))];refine⟨_,rfl,(λz=>nomatch z),λ_=>zAx (zAW ?_)⟩;refine zAB (zCU (zFz rfl (zBq (zBY (zAH (zAG rfl zAJ) (zAN (zPz (zBY (zAH (zAG rfl zAJ) (zAN (zSZ (c_gt ?_))))))))))));by_cases c2:1 < q
    .rw [decide_eq_true ((zLj q).mpr c2)];refine⟨_,rfl,λ_=>?_,λz=>nomatch z⟩;refine zAB (zA6 (zAf rfl (zDL (zAD (zAN (n_cl (zAD (zAN (n_cl (zAe ⟨by show 2<=10000;decide,zAo rfl (zAW (zAx (zAW ?_)))⟩))))))))));exact fin _ (by unfold cov;rw[if_neg c1,if_pos c2];rfl)
    .rw [decide_eq_false (λz=>c2 ((zLj q).mp z))];refine⟨_,rfl,(λz=>nomatch z),λ_=>zAx (zAW ?_)⟩;exact fin _ (by unfold cov;rw[if_neg c1,if_neg c2])
  .rintro s ⟨o6,rfl⟩;rw[qy,qy,take_length];refine zAW (zAB (zCP (zAO rfl (zAO rfl ⟨_,_,rfl,zAa tS,by rw[zCE];omega,zAW (zAx ?_)⟩))));refine⟨some (.loc p.1),some (.loc S.length),o6,?_,by omega⟩;dsimp only;have es:(S++[(T[j].map λq=>ratD (cov q)).map W.dat]).set O.length (news M.length j++[.loc S.length])=M.set O.length (news M.length (j+1))++(T.take (j+1)).map λqs=>(qs.map λq=>ratD (cov q)).map W.dat:=by
    rw[lS,<- zDC,<- hS,q0,List.set_append_left _ _ (by rw[length_set];exact lM),List.set_set,take_add_one,eT,Option.toList_some,xJ]
    rfl
   rw[es]
 .rintro s ⟨o4,o5,o6,rfl,hj⟩;rw[qy,l2T,take_length];refine zAW (zAB (zB1 (zAO rfl (zEK ?_))));obtain⟨l',R'⟩:=zOy (O:=M.set O.length (news M.length T.length)++T.map λqs=>(qs.map λq=>ratD (cov q)).map W.dat) (n:=O.length) (m:=M.length) (b:=O.length) (rows:=T.map (List.map λq=>ratD (cov q))) (by rw[qy];exact zAa (getElem?_set_self lM)) (λi ds ei=>by
   rw[List.getElem?_map] at ei;obtain⟨qs,e1,rfl⟩:=yq.mp ei;rw[getElem?_append_right (by rw[length_set];omega),length_set,Nat.add_sub_cancel_left,List.getElem?_map,e1]
   rfl) (le_refl _) (by omega)
  exact hQ _ _ l' ((kM.set (le_refl _)).app) R'
 .rw [show news M.length 0=[] from rfl,take_zero,map_nil,append_nil];have:M.set O.length []=M:=by
   apply ext_getElem?;intro i;by_cases q:O.length=i
   .subst q;rw[getElem?_set_self lM,tM]
   .rw [getElem?_set_ne q]
  rw[this]
theorem m53 {b0:Nat}(f:Fl w h rs)(ht:RB 80 t)(h1:I255 r)(h2:I255 g)(h3:I255 b)(e:Rw O n b0 l ((tabR w h rs).map (List.map λq=>ratD (cov q))))(hQ:∀ (L:Mem) (m:Nat) (l':Lp),Rw (O++L) m O.length l' ((tabR w h rs).map (List.map λq=>fmD (zC1 (cov q*t) r g b)))->Q (.loc m,O++L)):EvP (FM53 [.loc n,.dat (inkD r g b),.dat (ratD t)] O) Q:=by
 refine zDH rfl (by decide) ?_;unfold mb53;show EvP (evSs' GL1 D12 _ ⟨[some (.loc n),some (.dat (inkD r g b)),some (.dat (ratD t))],O⟩) _;refine zAB (zB1 (zFN (as:=tabR w h rs) (u:=List.map λq=>ratD (cov q)) (v:=List.map λq=>fmD (zC1 (cov q*t) r g b)) (zBO (zAO rfl ⟨n,rfl,rfl⟩)) e rfl (by rw[zBc];have:=f.h2;omega) (λL m qs hq em=>?_) λL l' R'=>zEK (hQ L _ l' R')));show EvP (evM GL1 D12 _ ⟨[some (.loc n),some (.dat (inkD r g b)),some (.dat (ratD t)),some (.loc m)],O++L⟩) _;obtain⟨k1,k2⟩:=zBV f qs hq;refine zHh (as:=qs) (u:=λq=>ratD (cov q)) (v:=λq=>fmD (zC1 (cov q*t) r g b)) (zBO (zAO rfl ⟨m,rfl,rfl⟩)) em rfl k1 (λq mq=>?_) rfl;have cb:=zGY (k2 q mq) (by decide);refine zAf rfl (zAM rfl (zAD (zAM rfl (zAD (zAH (zAG rfl zAJ) (n_cl (zAD (zAH (zAG rfl zAJ) (n_cl (zAe ?_))))))))));refine h44 (cov q) t 4000001 80 _ cb ht (by decide) ?_;refine n_cl (n_cl (zAD (zAH (zAG rfl zAJ) (n_cl (zAe ?_)))));refine h47 (cov q*t) r g b 4000081 _ ((zDf cb ht).mono (by decide)) (by decide) h1 h2 h3 ?_;exact n_cl (zAo rfl rfl)
abbrev rubD (t q:Rat):D:=fmD ⟨1 - cov q*t,0,0,0,0⟩
theorem m54 {b0:Nat}(f:Fl w h rs)(ht:RB 80 t)(e:Rw O n b0 l ((tabR w h rs).map (List.map λq=>ratD (cov q))))(hQ:∀ (O1:Mem) (m:Nat) (l':Lp),Kq O O1->Rw O1 m O.length l' ((tabR w h rs).map (List.map (rubD t)))->Q (.loc m,O1)):EvP (FM54 [.loc n,.dat (ratD t)] O) Q:=by
 refine zDH rfl (by decide) ?_;unfold mb54;show EvP (evSs' GL1 D13 _ ⟨[some (.loc n),some (.dat (ratD t)),none,none,none],O⟩) _;have hT:=zBV f;have lT:(tabR w h rs).length<=100:=by rw[zBc];have:=f.h2;omega
 generalize tabR w h rs=T at e hT lT hQ;have lE:l.length=T.length:=by rw[e.len,qy]
 refine zAB (zA6 (zDs (zAg ⟨zero_le _,zAW ?_⟩)));(walk_at "s");refine zAB (zCA (zBO (zAO rfl ⟨n,rfl,?_⟩)));refine zDJ (s:=⟨_,_⟩) (l.map λp=>.loc p.1) (λj s=>∃ (o3 o4:Option W) (O1:Mem) (l':Lp),s=⟨[some (.loc n),some (.dat (ratD t)),some (.loc O.length),o3,o4],O1⟩/\Kq O O1/\Rw O1 O.length O.length l' ((T.take j).map (List.map (rubD t)))) ?_ ?_ ?_ ⟨none,none,_,[],rfl,zBS,⟨⟨zA1,λp hp=>absurd hp (by simp)⟩,λp hp=>absurd hp (by simp),le_refl _,rfl⟩⟩
 .rintro j s ⟨o3,o4,O1,l',rfl,kq,Rr⟩;exact kq.get e.ll.top
 .rintro j y s ey ⟨o3,o4,O1,l',rfl,kq,Rr⟩;rw[List.getElem?_map] at ey;obtain⟨p,ep,rfl⟩:=yq.mp ey;have hj2:j < T.length:=by rw[<- lE];exact(zzg ep).1
  have eT:T[j]?=some T[j]:=getElem?_eq_getElem hj2;have mp:=mem_of_getElem? ep;have e2:p.2=T[j].map λq=>ratD (cov q):=by
   have h1:(l.map λp=>p.2)[j]?=some p.2:=by rw[List.getElem?_map,ep];rfl
   rw[e.snd,List.getElem?_map,eT] at h1;exact(xj h1).symm
  obtain⟨k1,k2⟩:=hT _ (mem_of_getElem? eT);have rp:=kq.get (e.ll.row p mp);rw[e2] at rp;refine⟨_,rfl,?_⟩;dsimp only;(walk_at "s");refine zAB (zFI (zHh (as:=T[j]) (u:=λq=>ratD (cov q)) (v:=λq=>ratD (1 - cov q*t)) (zBO (zAO rfl ⟨p.1,rfl,rfl⟩)) rp rfl k1 (λq mq=>?_) (zAW ?_)))
  .have cb:=zGY (k2 q mq) (by decide);refine zAf rfl (zAM rfl (zAD (zDL (zAD (zAN (n_cl (zAD (zAN (n_cl (zAe ⟨by show 2<=10000;decide,n_cl ?_⟩))))))))));refine zAD (zAM rfl (zAD (zAH (zAG rfl zAJ) (n_cl (zAD (zAH (zAG rfl zAJ) (n_cl (zAe ?_))))))));refine h44 (cov q) t 4000001 80 _ cb ht (by decide) ?_;refine n_cl (n_cl (zAe ?_));refine(show EvP (F43 [ratD 1,ratD (cov q*t)]) _ from ?_);refine h43 1 (cov q*t) 1 4000081 _ zDe ((zDf cb ht).mono (by decide)) (by decide) ?_;exact n_cl (zAo rfl rfl)
  (walk_at "s");refine zAB (zCP (zAO rfl (zHh (as:=T[j]) (u:=λq=>ratD (1 - cov q*t)) (v:=rubD t) (zBO (zAO rfl ⟨_,rfl,rfl⟩)) zA1 rfl k1 (λq mq=>?_) ?_)))
  .refine zAf rfl ?_;refine zDL (zAD (zAH (zAG rfl zAJ) (n_cl ?_)));(walk_at "w");exact zAo rfl rfl
  refine⟨_,_,rfl,zAa (zAa Rr.ll.top),by rw[qy,Rr.len,qy,length_take];omega,zAW (zAx ?_)⟩;have Rx:=Rr.keep (μ2:=O1++[(T[j].map λq=>ratD (1 - cov q*t)).map W.dat]++[(T[j].map (rubD t)).map W.dat]) zBS.app;have ln:O.length < O1.length:=Rr.lt;have ne:(O1++[(T[j].map λq=>ratD (1 - cov q*t)).map W.dat]).length≠O.length:=by rw[qQ];omega
  refine⟨_,_,_,l'++[((O1++[(T[j].map λq=>ratD (1 - cov q*t)).map W.dat]).length,T[j].map (rubD t))],rfl,(kq.app.app).set (le_refl _),⟨zKW Rx.ll zA1 ne,λp hp=>?_,le_refl _,?_⟩⟩
  .rcases mem_append.mp hp with z | z
   .exact Rr.lo p z
   .rw [mem_singleton.mp z];show O.length<=(O1++[(T[j].map λq=>ratD (1 - cov q*t)).map W.dat]).length;rw[qQ];omega
  .rw [xJ,Rr.snd,take_add_one,eT,Option.toList_some,xJ];rfl
 .rintro s ⟨o3,o4,O1,l',rfl,kq,Rr⟩;rw[qy,lE,take_length] at Rr;exact zAW (zAB (zB1 (zAO rfl (zEK (hQ O1 _ l' kq Rr)))))
theorem zT9 (h:EvP (evM J Y a s) λx=>∃ c ns l n y F,x.1=.obj c ns l/\ix.lookup c=some n/\Y[n]?=some (y,F)/\spec.lookup y=some (.mth c m)/\zEG.contains m=false/\EvP (evMs J Y es ⟨s.G,x.2⟩) λws=>EvP (F (.obj c ns l::ws.1) ws.2) Q):EvP (evM J Y (.mth ix m a es) s) Q:=by
 obtain⟨⟨x,mm⟩,e,c,ns,l,n,y,F,rfl,h1,h2,h3,h4,ws,e2,r,e3,q⟩:=h;refine⟨r,?_,q⟩;show mthM Y ix m (evM J Y a) (evMs J Y es) s=_;unfold mthM;rw[e,qx];show ((ix.lookup c).bind _)=_;rw[h1,qx,h2,qx,if_pos ⟨h3,h4⟩,e2,qx];exact e3
theorem m_mk (h1:Y[n]?=some (y,F))(h2:spec.lookup y=some (.mk c))(h:EvP (evMs J Y es s) λws=>EvP (F (ws.1++zPb d) ws.2) Q):EvP (evM J Y (.mk n c d es) s) Q:=by
 obtain⟨ws,e2,r,e3,q⟩:=h;refine⟨r,?_,q⟩;show mkM Y n c d (evMs J Y es) s=_;unfold mkM;rw[h1,qx,if_pos h2,e2,qx];exact e3
theorem zUA (h1:Y[n]?=some (y,F))(h2:spec.lookup y=some (.mk c))(h:EvP (evMs J Y es s) λws=>EvP (evM J Y a ⟨s.G,ws.2⟩) λw=>EvP (F (ws.1++[w.1]) w.2) Q):EvP (evM J Y (.mkk n c es a) s) Q:=by
 obtain⟨ws,e2,w,e4,r,e3,q⟩:=h;refine⟨r,?_,q⟩;show mkkM Y n c (evMs J Y es) (evM J Y a) s=_;unfold mkkM;rw[h1,qx,if_pos h2,e2,qx,e4,qx];exact e3
theorem zRN (h:EvP (evM J Y t s) λx=>∃ n,x.1=.loc n/\n < x.2.length/\Q (.nx ⟨s.G,x.2.set n []⟩)):EvP (evS' J Y (.clr t) s) Q:=by
 obtain⟨⟨x,m⟩,e,n,rfl,h1,q⟩:=h;refine⟨_,?_,q⟩;show clrM (evM J Y t) s=_;unfold clrM;rw[e,qx];show (if n < m.length then _ else _)=_;rw[if_pos h1]
theorem zTI (h:EvP (evE J a G) λx=>∃ c ns l b,x.1=.obj c ns l/\oiOf J.ob y c=some b/\Q (.bl b,.cl)):EvP (evE J (.iso y a) G) Q:=by
 obtain⟨⟨x,k⟩,e,c,ns,l,b,rfl,h1,q⟩:=h;refine⟨_,?_,q⟩;show one (evE J a) (isoF (oiOf J.ob y)) G=_;unfold one;rw[e,qx];show ((oiOf J.ob y c).bind _)=_;rw[h1]
 rfl
theorem zGo (h:EvP (evM J Y (.call n f es) s) λr=>∃ c,r.1=.dat (.bl c)/\Q (!c,r.2)):EvP (evT J Y (.not (.call n f es)) s) Q:=by
 obtain⟨⟨r,m⟩,e1,c,e2,q⟩:=h;cases e2;refine⟨_,?_,q⟩;show notB (asBM (evM J Y (.call n f es))) s=_;unfold notB asBM;rw[e1]
 rfl
theorem zQu :drW O (.obj c ns l)=some (dobj c ns l):=by unfold drW;rw[sbW]
theorem m56 {b0:Nat}{T:List (List (List Rat))}(i1:([("Fill",8),("Rub",9)]:List (Str×Nat)).lookup c=some n)(i2:D14[n]?=some (y,F))(i3:spec.lookup y=some (.mth c "films"))(i4:oiOf GL1.ob "Layer" c=some true)(hF:zHC F (.obj c ns la) w h O (T.map (List.map rsD)))
  (h1:1<=T.length) (h2:T.length<=100) (h3:∀ r∈T,r.length<=100) (e:Rw O nd b0 ld (T.map (List.map rsD))) (hQ:∀ O1,Kq O O1->Q (.dat (.bl true),O1)):EvP (FM56 [.obj c ns la,.loc nd,.dat (.int (w:Int)),.dat (.int (h:Int))] O) Q:=by
 refine zDH rfl (by decide) ?_;unfold mb56;show EvP (evSs' GL1 D14 _ ⟨[some (.obj c ns la),some (.loc nd),some (.dat (.int (w:Int))),some (.dat (.int (h:Int))),none],O⟩) _;refine zAB (zA6 (zT9 (zAO rfl ⟨c,ns,la,n,y,F,rfl,i1,i2,i3,by decide,zAE (zAO rfl (zAE (zAO rfl (zAg ?_))))⟩)));refine hF _ λL m l R1=>zAW ?_
 (walk_at "s");have eD:∀ {O:Mem} {n b:Nat} {l:Lp},Rw O n b l (T.map (List.map rsD))->drW O (.loc n)=some (fsD T):=λr=>by rw[r.dr,map_map];rfl
 have R0:=e.keep (zBS (L:=L));refine zAB (zCU (zFz rfl (zH5 (zH6 (zEx (zTI (zAH (zAG rfl zQu) ⟨c,_,_,true,rfl,i4,x_bl (x_bl (cb_f ?_))⟩)))))));refine zH7 (zEx (zAM rfl (zAD (zAH (zAG rfl (eD R1)) (n_cl (zAD (zAH (zAG rfl (eD R0)) (n_cl (zAe ?_)))))))));refine h52 T _ h2 h3 ?_;refine n_cl (x_bl ⟨_,rfl,(λz=>nomatch z),λ_=>zAx (zAW ?_)⟩);have lr:l.length=T.length:=by rw[R1.len,qy]
 have l0:0 < l.length:=by omega
 have e0:l[0]?=some l[0]:=getElem?_eq_getElem l0;have m0:=mem_of_getElem? e0;have lo0:=R1.lo _ m0;have lt0:=R1.ll.lt.2 _ m0;have ap0:=zFb R1.ll _ m0;refine zAB (zRN (m_ix (zAO rfl (zAf rfl (zAN (zAo rfl (zDE R1.ll.top (w:=.loc l[0].1) (zAn (j:=0) (by rw[List.getElem?_map,e0];rfl)) ⟨l[0].1,rfl,lt0,zAW ?_⟩)))))));dsimp only;have t4:((O++L).set l[0].1 [])[m]?=some (l.map λp=>.loc p.1):=by rw[getElem?_set_ne ap0];exact R1.ll.top
 refine zAB (zCP (zAO rfl (zDs (zAg ⟨zero_le _,_,_,rfl,zAa t4,by rw[qy];omega,zAW ?_⟩))));refine zAB (zB1 (zAf rfl (zNG (zAo rfl (zEK (hQ _ ?_))))));exact(((zBS (L:=L)).set lo0).app).set R1.top
theorem zET (v:Rat->List Rat)(T:List (List Rat)):T.map (List.map λq=>rsD (v q))=(T.map (List.map v)).map (List.map rsD):=by
 rw[map_map];apply map_congr_left;intro r _;show r.map _=(r.map v).map rsD;rw[map_map]
 rfl
abbrev inkV (t:Rat) (r g b:Int) (q:Rat):List Rat:=[(zC1 (cov q*t) r g b).k,(zC1 (cov q*t) r g b).a,(zC1 (cov q*t) r g b).r,(zC1 (cov q*t) r g b).g,(zC1 (cov q*t) r g b).b]
abbrev rubV (t:Rat) (q:Rat):List Rat:=[1 - cov q*t,0,0,0,0]
theorem zRP (f:Fl w h rs)(v:Rat->List Rat):1<=((tabR w h rs).map (List.map v)).length/\((tabR w h rs).map (List.map v)).length<=100/\∀ r∈(tabR w h rs).map (List.map v),r.length<=100:=by
 have h1:=f.h1;have h2:=f.h2;refine⟨by rw[qy,zBc];omega,by rw[qy,zBc];omega,λr hr=>?_⟩;obtain⟨qs,mq,rfl⟩:=mem_map.mp hr;rw[qy];exact(zBV f qs mq).1
theorem zM3 {b2:Nat}(f1:Fl w h rs)(f2:Fl (h+1) w rs)(ht:RB 80 t)(k1:I255 r)(k2:I255 g)(k3:I255 b)(e2:Rw O n2 b2 l2 (rs.map λps=>ps.map ptD))(eF:Rw O a bF lF (rs.map λps=>ps.map ptD))(eR:Rw O c bR lR (rs.map λps=>ps.map ptD))(e6:O[n6]?=some [zGT a (inkD r g b) t,rubW c t])(o7 o8:Option W)
  (hQ:∀ O1,Kq O O1->Q (.dat (.bl true),O1)) :
  EvP (evSs' GL1 D15 (.cons (.for1 7 (.it (.lst (.cons (.pur (.tup (.cons (.var 0) (.cons (.var 1) .nil)))) (.cons (.pur (.tup (.cons (.bin .Add (.var 1) (.int 1)) (.cons (.var 0) .nil)))) (.cons (.pur (.tup (.cons (.var 0) (.cons (.var 1) .nil)))) .nil))))) (.cons (.set 8 (.call 11 "_law_covers" (.cons (.ix (.var 7) (.pur (.int 0))) (.cons (.ix (.var 7) (.pur (.int 1))) (.cons (.var 2) .nil))))) (.cons (.ife (.not (.call 14 "_law_spoilt" (.cons (.ix (.var 6) (.pur (.int 0))) (.cons (.call 12 "_law_inked" (.cons (.var 8) (.cons (.var 3) (.cons (.var 4) .nil)))) (.cons (.ix (.var 7) (.pur (.int 0))) (.cons (.ix (.var 7) (.pur (.int 1))) .nil)))))) (.cons (.ret (.pur (.bl false))) .nil) .nil) (.cons (.ife (.not (.call 14 "_law_spoilt" (.cons (.ix (.var 6) (.pur (.int 1))) (.cons (.call 13 "_law_rubbed" (.cons (.var 8) (.cons (.var 4) .nil))) (.cons (.ix (.var 7) (.pur (.int 0))) (.cons (.ix (.var 7) (.pur (.int 1))) .nil)))))) (.cons (.ret (.pur (.bl false))) .nil) .nil) .nil)))) (.cons (.ret (.pur (.bl true))) .nil))
   ⟨[some (.dat (.int (w:Int))),some (.dat (.int (h:Int))),some (.loc n2),some (.dat (inkD r g b)),some (.dat (ratD t)),some (.loc n5),some (.loc n6),o7,o8],O⟩) (KFM Q):=by
 have t2:∀ (x y:Int) (i j:Nat) (O:Mem) (G:List (Option W)) (Q:MR->Prop),True:=λ_ _ _ _ _ _ _=>trivial
 refine zAB (zCA (zBO (zDs (zAE (zAf rfl (zDL (zAD (zAH (zAG rfl zAJ) (n_cl (zAD (zAH (zAG rfl zAJ) (n_cl (zAe ⟨by show 2<=10000;decide,zAo rfl ?_⟩)))))))))))));refine zAE (zAf rfl (zDL (zAD (zAc (zAH (zAG rfl zAJ) (zAN (zDt (n_cl (zAD (zAH (zAG rfl zAJ) (n_cl (zAe ⟨by show 2<=10000;decide,zAo rfl ?_⟩))))))))))));refine zAE (zAf rfl (zDL (zAD (zAH (zAG rfl zAJ) (n_cl (zAD (zAH (zAG rfl zAJ) (n_cl (zAe ⟨by show 2<=10000;decide,zAo rfl (zAg ⟨by show 3<=10000;decide,_,rfl,?_⟩)⟩)))))))));have hs:(O++[[W.dat (.tup [.int (w:Int),.int (h:Int)]),.dat (.tup [.int ((h:Int)+1),.int (w:Int)]),.dat (.tup [.int (w:Int),.int (h:Int)])]])[O.length]?=some [W.dat (.tup [.int (w:Int),.int (h:Int)]),.dat (.tup [.int ((h:Int)+1),.int (w:Int)]),.dat (.tup [.int (w:Int),.int (h:Int)])]:=zA1;have kq0:Kq O (O++[[W.dat (.tup [.int (w:Int),.int (h:Int)]),.dat (.tup [.int ((h:Int)+1),.int (w:Int)]),.dat (.tup [.int (w:Int),.int (h:Int)])]]):=zBS;dsimp only;generalize O++[[W.dat (.tup [.int (w:Int),.int (h:Int)]),.dat (.tup [.int ((h:Int)+1),.int (w:Int)]),.dat (.tup [.int (w:Int),.int (h:Int)])]]=O0 at hs kq0;refine zDJ (s:=⟨_,_⟩) [W.dat (.tup [.int (w:Int),.int (h:Int)]),.dat (.tup [.int ((h:Int)+1),.int (w:Int)]),.dat (.tup [.int (w:Int),.int (h:Int)])] (λj s=>∃ (o7 o8:Option W) (O1:Mem),s=⟨[some (.dat (.int (w:Int))),some (.dat (.int (h:Int))),some (.loc n2),some (.dat (inkD r g b)),some (.dat (ratD t)),some (.loc n5),some (.loc n6),o7,o8],O1⟩/\Kq O0 O1) ?_ ?_ ?_ ⟨o7,o8,_,rfl,zSR⟩
 .rintro j s ⟨o7,o8,O1,rfl,kq⟩;exact kq.get hs
 .rintro j y s ey ⟨o7,o8,O1,rfl,kq⟩;obtain⟨x,z,ey2,f⟩:∃ x z:Nat,y=.dat (.tup [.int (x:Int),.int (z:Int)])/\Fl x z rs:=by
   match j,ey with
   | 0,ey=>exact⟨w,h,(xj ey).symm,f1⟩
   | 1,ey=>exact⟨h+1,w,(xj ey).symm,f2⟩
   | 2,ey=>exact⟨w,h,(xj ey).symm,f1⟩
   | _+3,ey=>cases ey
  subst ey2;clear ey;refine⟨_,rfl,?_⟩;dsimp only;(walk_at "s");have i0:∀ (Y:Dm) (o8:Option W) (O:Mem) (Q:MR->Prop),Q (.dat (.int (x:Int)),O)->EvP (evM GL1 Y (.ix (.var 7) (.pur (.int 0))) ⟨[some (.dat (.int (w:Int))),some (.dat (.int (h:Int))),some (.loc n2),some (.dat (inkD r g b)),some (.dat (ratD t)),some (.loc n5),some (.loc n6),some (.dat (.tup [.int (x:Int),.int (z:Int)])),o8],O⟩) Q:=λY o8 O Q q=>m_ix (zAO rfl (zAf rfl (zAN (zAo rfl ⟨_,rfl,q⟩))))
  have i1:∀ (Y:Dm) (o8:Option W) (O:Mem) (Q:MR->Prop),Q (.dat (.int (z:Int)),O)->EvP (evM GL1 Y (.ix (.var 7) (.pur (.int 1))) ⟨[some (.dat (.int (w:Int))),some (.dat (.int (h:Int))),some (.loc n2),some (.dat (inkD r g b)),some (.dat (ratD t)),some (.loc n5),some (.loc n6),some (.dat (.tup [.int (x:Int),.int (z:Int)])),o8],O⟩) Q:=λY o8 O Q q=>m_ix (zAO rfl (zAf rfl (zAN (zAo rfl ⟨_,rfl,q⟩))))
  refine zAB (zA6 (zBR (F:=FM51) rfl (zAE (i0 _ _ _ _ (zAE (i1 _ _ _ _ (zAE (zAO rfl (zAg ?_)))))))));have ka:=kq0.trans kq;refine(show EvP (FM51 [.dat (.int (x:Int)),.dat (.int (z:Int)),.loc n2] O1) _ from ?_);refine m51 f (e2.keep ka) λO4 n8 l8 q1 R8=>zAW ?_
  (walk_at "s");have kb:=ka.trans q1;refine zAB (zCU (zGo (zBR (F:=FM56) rfl (zAE (m_ix (zAO rfl (zAf rfl (zAN (zAo rfl (zDE (kb.get e6) (w:=zGT a (inkD r g b) t) rfl (zAE (zBR (F:=FM53) rfl (zAE (zAO rfl (zAE (zAO rfl (zAE (zAO rfl (zAg ?_)))))))))))))))))));refine(show EvP (FM53 [.loc n8,.dat (inkD r g b),.dat (ratD t)] O4) _ from ?_);refine m53 f ht k1 k2 k3 R8 λL m lm Rm=>?_
  refine zAE (i0 _ _ _ _ (zAE (i1 _ _ _ _ (zAg ?_))));have kc:=kb.app (L:=L);obtain⟨s1,s2,s3⟩:=zRP f (inkV t r g b);have hF:=zUa (O:=O4++L) f ht k1 k2 k3 (eF.keep kc).shape;rw[show (tabR x z rs).map (List.map λq=>fmD (zC1 (cov q*t) r g b))=((tabR x z rs).map (List.map (inkV t r g b))).map (List.map rsD) from zET _ _] at hF Rm;refine(show EvP (FM56 [zGT a (inkD r g b) t,.loc m,.dat (.int (x:Int)),.dat (.int (z:Int))] (O4++L)) _ from ?_);refine m56 (n:=8) (y := "Fill.films") rfl rfl (by decide +kernel) (by decide +kernel) hF s1 s2 s3 Rm fun μ2 q2=>⟨true,rfl,(λz=>nomatch z),λ_=>zAx (zAW ?_)⟩
  dsimp only;have k8:=(zBS (L:=L)).trans q2;have kd:=kc.trans q2;refine zAB (zCU (zGo (zBR (F:=FM56) rfl (zAE (m_ix (zAO rfl (zAf rfl (zAN (zAo rfl (zDE (kd.get e6) (w:=rubW c t) rfl (zAE (zBR (F:=FM54) rfl (zAE (zAO rfl (zAE (zAO rfl (zAg ?_)))))))))))))))));refine(show EvP (FM54 [.loc n8,.dat (ratD t)] μ2) _ from ?_);refine m54 f ht (R8.keep k8) λY8 m3 l3 q3 R3=>?_
  refine zAE (i0 _ _ _ _ (zAE (i1 _ _ _ _ (zAg ?_))));have ke:=kd.trans q3;obtain⟨s1,s2,s3⟩:=zRP f (rubV t);have hF:=fRub (O:=Y8) f ht (eR.keep ke).shape;rw[show (tabR x z rs).map (List.map λq=>fmD ⟨1 - cov q*t,0,0,0,0⟩)=((tabR x z rs).map (List.map (rubV t))).map (List.map rsD) from zET _ _] at hF;rw[show (tabR x z rs).map (List.map (rubD t))=((tabR x z rs).map (List.map (rubV t))).map (List.map rsD) from zET _ _] at R3;refine(show EvP (FM56 [rubW c t,.loc m3,.dat (.int (x:Int)),.dat (.int (z:Int))] Y8) _ from ?_);refine m56 (n:=9) (y := "Rub.films") rfl rfl (by decide +kernel) (by decide +kernel) hF s1 s2 s3 R3 λO6 q4=>⟨true,rfl,(λz=>nomatch z),λ_=>zAx (zAW (zAx ?_))⟩
  exact⟨_,_,O6,rfl,((((kq.trans q1).app).trans q2).trans q3).trans q4⟩
 .rintro s ⟨o7,o8,O1,rfl,kq⟩;exact zAW (zAB (zB1 (zAf rfl (zNG (zAo rfl (zEK (hQ _ (kq0.trans kq))))))))
theorem Rw.range {μ2:Mem}(e:Rw O n b l rows)(k:∀ x,b<=x->x < O.length->μ2[x]?=O[x]?):Rw μ2 n b l rows :=
 ⟨e.ll.keep (k n e.top e.lt) λp hp=>k p.1 (e.lo p hp) (e.ll.lt.2 p hp),e.lo,e.top,e.snd⟩
theorem m57 {b2:Nat}(f1:Fl w h rs)(f2:Fl (h+1) w rs)(ht:RB 80 t)(k1:I255 r)(k2:I255 g)(k3:I255 b)(ho:StO o t)(e2:Rw O n2 b2 l2 (rs.map λps=>ps.map ptD))(hQ:∀ O1,Kq O O1->Q (.dat (.bl true),O1)):EvP (FM57 [.dat (.int (w:Int)),.dat (.int (h:Int)),.loc n2,.dat (inkD r g b),.dat o] O) Q:=by
 refine zDH rfl (by decide) ?_;unfold mb57;show EvP (evSs' GL1 D15 _ ⟨[some (.dat (.int (w:Int))),some (.dat (.int (h:Int))),some (.loc n2),some (.dat (inkD r g b)),some (.dat o),none,none,none,none],O⟩) _;have hrl:=f1.rl;have hrows:(rs.map λps=>ps.map ptD).length<=100:=by rw[qy];omega
 refine zAB (zFI (zLc (i:=2) rfl rfl e2 (by omega) λZ7 n5 l5 R5=>zAW ?_));(walk_at "s");have kq1:Kq O (O++Z7):=zBS;generalize O++Z7=O4 at R5 kq1;have tail:∀ (O6:Mem) (n6 a c:Nat) (lF lR:Lp),Kq O4 O6->Rw O6 a O4.length lF (rs.map λps=>ps.map ptD)->Rw O6 c O4.length lR (rs.map λps=>ps.map ptD)->O4.length<=n6->O6[n6]?=some [zGT a (inkD r g b) t,rubW c t] ->
   EvP (evSs' GL1 D15 (MT.cons (.ife (.pur (.cmp .NotEq (.var 5) (.var 2))) (.cons (.ret (.pur (.bl false))) .nil) .nil) (.cons (.app (.var 5) (.lst (.cons (.pur (.tup (.cons (.tup (.cons (.int 0) (.cons (.int 1) .nil))) (.cons (.tup (.cons (.int 0) (.cons (.int 1) .nil))) .nil)))) (.cons (.pur (.tup (.cons (.tup (.cons (.int 9) (.cons (.int 1) .nil))) (.cons (.tup (.cons (.int 0) (.cons (.int 1) .nil))) .nil)))) (.cons (.pur (.tup (.cons (.tup (.cons (.int 9) (.cons (.int 1) .nil))) (.cons (.tup (.cons (.int 9) (.cons (.int 1) .nil))) .nil)))) .nil))))) (.cons (.app (.ix (.var 5) (.pur (.int 0))) (.pur (.tup (.cons (.tup (.cons (.int 5) (.cons (.int 1) .nil))) (.cons (.tup (.cons (.int 7) (.cons (.int 1) .nil))) .nil))))) (.cons (.for1 7 (.it (.lst (.cons (.pur (.tup (.cons (.var 0) (.cons (.var 1) .nil)))) (.cons (.pur (.tup (.cons (.bin .Add (.var 1) (.int 1)) (.cons (.var 0) .nil)))) (.cons (.pur (.tup (.cons (.var 0) (.cons (.var 1) .nil)))) .nil))))) (.cons (.set 8 (.call 11 "_law_covers" (.cons (.ix (.var 7) (.pur (.int 0))) (.cons (.ix (.var 7) (.pur (.int 1))) (.cons (.var 2) .nil))))) (.cons (.ife (.not (.call 14 "_law_spoilt" (.cons (.ix (.var 6) (.pur (.int 0))) (.cons (.call 12 "_law_inked" (.cons (.var 8) (.cons (.var 3) (.cons (.var 4) .nil)))) (.cons (.ix (.var 7) (.pur (.int 0))) (.cons (.ix (.var 7) (.pur (.int 1))) .nil)))))) (.cons (.ret (.pur (.bl false))) .nil) .nil) (.cons (.ife (.not (.call 14 "_law_spoilt" (.cons (.ix (.var 6) (.pur (.int 1))) (.cons (.call 13 "_law_rubbed" (.cons (.var 8) (.cons (.var 4) .nil))) (.cons (.ix (.var 7) (.pur (.int 0))) (.cons (.ix (.var 7) (.pur (.int 1))) .nil)))))) (.cons (.ret (.pur (.bl false))) .nil) .nil) .nil)))) (.cons (.ret (.pur (.bl true))) .nil)))))
    ⟨[some (.dat (.int (w:Int))),some (.dat (.int (h:Int))),some (.loc n2),some (.dat (inkD r g b)),some (.dat (ratD t)),some (.loc n5),some (.loc n6),none,none],O6⟩) (KFM Q):=by
  intro O6 n6 a c lF lR q4 RF RR b6 e6;have R5':=R5.keep q4;have e2':=e2.keep (kq1.trans q4);have l5lt:=R5.lt;have l5le:l5.length<=100:=by rw[R5.len];exact hrows
  refine zAB (zCU (zFz rfl (zBq (zAH (zAG rfl R5'.shape) (zAH (zAG rfl e2'.shape) (zUd (zLV rs) (by decide) ⟨_,rfl,(λz=>nomatch z),λ_=>zAx (zAW ?_)⟩))))));refine zAB (zCP (zAO rfl (zDs (zAE (zAf rfl ?_)))));(walk_at "w");refine zAo rfl (zAE (zAf rfl ?_));(walk_at "w");refine zAo rfl (zAE (zAf rfl ?_));(walk_at "w");refine zAo rfl (zAg ⟨by show 3<=10000;decide,_,_,rfl,zAa R5'.ll.top,by rw[qy];omega,zAW ?_⟩);dsimp only;generalize hX:([W.dat (.tup [.tup [.int 0,.int 1],.tup [.int 0,.int 1]]),.dat (.tup [.tup [.int 9,.int 1],.tup [.int 0,.int 1]]),.dat (.tup [.tup [.int 9,.int 1],.tup [.int 9,.int 1]])]:List W)=X3;have lX:X3.length=3:=by rw[<- hX];rfl
  have n5lt:n5 < O6.length:=R5'.lt;have t5:((O6++[X3]).set n5 (l5.map (λp=>W.loc p.1)++[.loc O6.length]))[n5]?=some (l5.map (λp=>W.loc p.1)++[.loc O6.length]):=getElem?_set_self (by rw[qQ];omega);obtain⟨p0,ws0,a0,g0,c0,d0,b0⟩:∃ (p0:Nat) (ws0:List W),atI (l5.map (λp=>W.loc p.1)++[.loc O6.length]) 0=some (.loc p0)/\((O6++[X3]).set n5 (l5.map (λp=>W.loc p.1)++[.loc O6.length]))[p0]?=some ws0/\ws0.length<=10000/\O.length<=p0/\(p0 < O4.length\/O6.length<=p0):=by
   cases h5:l5 with
   | nil=>exact⟨O6.length,X3,rfl,by rw[getElem?_set_ne (by omega)];exact zA1,by omega,le_trans kq1.le q4.le,.inr (le_refl _)⟩
   | cons p l =>
    have mp:p∈l5:=by rw[h5];exact q8
    refine⟨p.1,p.2.map .dat,zAn (j:=0) rfl,?_,?_,R5.lo p mp,.inl (R5.ll.lt.2 p mp)⟩
    .rw [getElem?_set_ne (Ne.symm (zFb R5.ll p mp))];exact zAa (R5'.ll.row p mp)
    .have:p.2∈rs.map λps=>ps.map ptD:=by rw[<- R5.snd];exact mem_map.mpr ⟨p,mp,rfl⟩
     obtain⟨ps,hp,ep⟩:=mem_map.mp this;rw[qy,<- ep,qy];have:=(f1.six ps hp).1;omega
  refine zAB (zCP (m_ix (zAO rfl (zAf rfl (zAN (zAo rfl (zDE t5 a0 (zAf rfl ?_))))))));(walk_at "w");refine zAo rfl ⟨_,_,rfl,g0,c0,zAW ?_⟩;dsimp only;generalize Z8:((O6++[X3]).set n5 (l5.map (λp=>W.loc p.1)++[.loc O6.length])).set p0 (ws0++[.dat (.tup [.tup [.int 5,.int 1],.tup [.int 7,.int 1]])])=Z3;have n5ge:O.length<=n5:=R5.top;have kr:∀ x,x < O.length\/(O4.length<=x/\x < O6.length)->Z3[x]?=O6[x]?:=λx hx=>by
   have:=q4.le;have:=kq1.le;rw[<- Z8,getElem?_set_ne (by omega),getElem?_set_ne (by omega),getElem?_append_left (by omega)]
  have l6:Z3.length=O6.length+1:=by rw[<- Z8,length_set,length_set,qQ];rfl
  have kq6:Kq O Z3:=⟨by have:=q4.le;have:=kq1.le;omega,λx hx=>(kr x (.inl hx)).trans ((kq1.trans q4).kp x hx)⟩;have n6lt:n6 < O6.length:=(zzg e6).1;exact zM3 f1 f2 ht k1 k2 k3 (e2.keep kq6) (RF.range λx h1 h2=>kr x (.inr ⟨h1,h2⟩)) (RR.range λx h1 h2=>kr x (.inr ⟨h1,h2⟩)) ((kr n6 (.inr ⟨b6,n6lt⟩)).trans e6) none none λO1 q=>hQ O1 (kq6.trans q)
 have fin:∀ (L O3:Mem) (a c:Nat) (lF lR:Lp),Rw (O4++L) a O4.length lF (rs.map λps=>ps.map ptD)->Rw (O4++L++O3) c (O4++L).length lR (rs.map λps=>ps.map ptD)->EvP (evSs' GL1 D15 _ ⟨[some (.dat (.int (w:Int))),some (.dat (.int (h:Int))),some (.loc n2),some (.dat (inkD r g b)),some (.dat (ratD t)),some (.loc n5),some (.loc (O4++L++O3).length),none,none],O4++L++O3++[[zGT a (inkD r g b) t,rubW c t]]⟩) (KFM Q):=λL O3 a c lF lR RF RR=>tail _ _ a c lF lR zBS.app.app (RF.keep zBS.app) ((RR.keep zBS).below (by rw[qQ];omega)) (by simp only[qQ];omega) zA1
 refine zAB (zCU (zFz rfl (zBq (zAH (zAG rfl zAJ) (zK5 ?_)))));rcases ho with ⟨rfl,rfl⟩ | rfl
 .refine ⟨(.bl true,.cl),rfl,true,rfl,λ_=>?_,λz=>nomatch z⟩;refine zAB (zA6 (zDs (zAE (m_mk (F:=zAd) (y := "Fill()") rfl (by decide +kernel) (zAE (zAO rfl (zAE (zAO rfl (zAg ?_)))))))));refine(show EvP (zAd [.loc n5,.dat (inkD r g b),.dat .non] O4) _ from ?_);refine zSK R5 hrows zD1 (.inl ⟨rfl,rfl⟩) λL a lF RF=>?_
  refine zAE (m_mk (F:=zAu) (y := "Rub()") rfl (by decide +kernel) (zAE (zAO rfl (zAg ?_))));refine(show EvP (zAu [.loc n5,.dat .non] (O4++L)) _ from ?_);refine mRub (R5.keep zBS) hrows zD1 (.inl ⟨rfl,rfl⟩) λO3 c lR RR=>?_
  refine zAg ⟨by show 2<=10000;decide,zAW ?_⟩;(walk_at "s");refine zAB (zA6 (zAf rfl ?_));(walk_at "w");refine zAo rfl (zAW (zAx (zAW ?_)));(walk_at "s");exact fin L O3 a c lF lR RF RR
 .refine ⟨(.bl false,.cl),rfl,false,rfl,(λz=>nomatch z),λ_=>?_⟩;refine zAB (zA6 (zDs (zAE (m_mk (F:=zAd) (y := "Fill()") rfl (by decide +kernel) (zAE (zAO rfl (zAE (zAO rfl (zAE (zAO rfl (zAg ?_)))))))))));refine(show EvP (zAd [.loc n5,.dat (inkD r g b),.dat (ratD t)] O4) _ from ?_);refine zSK R5 hrows zD1 (.inr rfl) λL a lF RF=>?_
  refine zAE (zUA (F:=zAu) (y := "Rub()") rfl (by decide +kernel) (zAE (zAO rfl (zAg (zAO rfl ?_)))));refine(show EvP (zAu [.loc n5,.dat (ratD t)] (O4++L)) _ from ?_);refine mRub (R5.keep zBS) hrows zD1 (.inr rfl) λO3 c lR RR=>?_
  refine zAg ⟨by show 2<=10000;decide,zAW (zAx (zAW ?_))⟩;(walk_at "s");exact fin L O3 a c lF lR RF RR
theorem zIw :evSrc J Y (.rng2 a b)=zML (evE J a) (evE J b):=rfl
theorem zSO (ns:List Int)(hn:ns.length<=63):EvP (FM58 [.dat (scr ns)] []) λx=>x.1=.dat (.bl true):=by
 refine zDH rfl (by decide) ?_;show EvP (evSs' GL1 D16 mb58 ⟨[some (.dat (scr ns)),none,none,none,none,none,none],[]⟩) _;unfold mb58;refine zAB (zA6 (zAf rfl (zAc (zAN (zAc (zAM rfl (zAD (zAH (zAG rfl zAJ) (n_cl (zAD (zAN (n_cl (zAe ?_)))))))))))));refine h39 ns 0 _ (by decide) ?_;refine n_cl (zAN (zBB (by decide) (zDt (zAo rfl (zAW ?_)))));(walk_at "s");refine zAB (zA6 (zAf rfl (zAc (zAN (zAc (zAM rfl (zAD (zAH (zAG rfl zAJ) (n_cl (zAD (zAN (n_cl (zAe ?_)))))))))))));refine h39 ns 1 _ (by decide) ?_;refine n_cl (zAN (zBB (by decide) (zDt (zAo rfl (zAW ?_)))));(walk_at "s");have a1:=xX (cel ns 0) (show (0:Int) < 3 by decide);have a2:=fmod_lt_of_pos (cel ns 0) (show (0:Int) < 3 by decide);have a3:=xX (cel ns 1) (show (0:Int) < 2 by decide);have a4:=fmod_lt_of_pos (cel ns 1) (show (0:Int) < 2 by decide);obtain⟨w,ew⟩:∃ w:Nat,1+(cel ns 0).fmod 3=(w:Int):=⟨(1+(cel ns 0).fmod 3).toNat,by omega⟩;obtain⟨h,eh⟩:∃ h:Nat,1+(cel ns 1).fmod 2=(h:Int):=⟨(1+(cel ns 1).fmod 2).toNat,by omega⟩;rw[ew,eh];have w1:1<=w:=by omega
 have w2:w<=3:=by omega
 have h1:1<=h:=by omega
 have h2:h<=2:=by omega
 clear a1 a2 a3 a4 ew eh;have src:∀ (s:Mst) (Q:Src×Mem->Prop),Q (.items [W.dat (.int 2),.dat (.int 3)],s.O)->EvP (evSrc GL1 D16 (.rng2 (.int 2) (.int 4)) s) Q:=λs Q q=>by
  refine⟨_,?_,q⟩;rw[zIw];unfold zML;have:zGu (evE GL1 (.int 2)) (evE GL1 (.int 4)) (drS s.O s.G)=some (rngL 2 2):=by
   unfold zGu;show (if ((-(2^62):Int)<=2/\(2:Int) < 2^62)/\(-(2^62):Int)<=4/\(4:Int) < 2^62 then some (rngL 2 ((4:Int) - 2).toNat) else none)=_;exact if_pos (by decide)
  rw[this]
  rfl
 refine zAB (zCA (src _ _ ?_));refine zDJ (s:=⟨_,_⟩) [W.dat (.int 2),.dat (.int 3)] (λj s=>∃ (o3 o4 o5 o6:Option W) (O1:Mem),s=⟨[some (.dat (scr ns)),some (.dat (.int (w:Int))),some (.dat (.int (h:Int))),o3,o4,o5,o6],O1⟩) (λ_ _ _=>rfl) ?_ ?_ ⟨none,none,none,none,_,rfl⟩
 .rintro j y s ey ⟨o3,o4,o5,o6,O1,rfl⟩;obtain⟨k,k0,k1,ey2⟩:∃ k:Int,2<=k/\k<=3/\y=.dat (.int k):=by
   match j,ey with
   | 0,ey=>exact⟨2,by decide,by decide,(xj ey).symm⟩
   | 1,ey=>exact⟨3,by decide,by decide,(xj ey).symm⟩
   | _+2,ey=>cases ey
  subst ey2;clear ey;refine⟨_,rfl,?_⟩;dsimp only;(walk_at "s");refine zAB (zA6 (zAf rfl (zAM rfl (zAD (zAM rfl (zAD (zAH (zAG rfl zAJ) (n_cl (zAD (zAH (zAG rfl zAJ) (n_cl (zAe ?_))))))))))));refine h39 ns k _ (by omega) ?_;refine n_cl (n_cl (zAD (zAH (zAG rfl zAJ) (n_cl (zAe ?_)))));refine h41 _ k _ (by omega) (by omega) λx=>?_
  refine n_cl (zAo rfl (zAW ?_));(walk_at "s");refine zAB (zA6 (zBR (F:=FM50) rfl (zAE (zAf rfl (zAc (zAH (zAG rfl zAJ) (zAN (zCM (zBZ (by decide) (by decide)) (zAo rfl (zAE (zAO rfl (zAE (zAO rfl (zAg ?_))))))))))))));refine m50 _ w h (by omega) (by omega) O1 _ λO4 n l rs q1 R1 hl hs=>zAW ?_
  (walk_at "s");have f1:Fl w h rs:=⟨w1,by omega,h1,by omega,hl,hs⟩;have f2:Fl (h+1) w rs:=⟨by omega,by omega,w1,by omega,hl,hs⟩;refine zAB (zA6 (zAf rfl (zK5 (zAo rfl (zAW ?_)))));(walk_at "s");have go:∀ (o:D) (t:Rat),StO o t->RB 80 t->EvP (evSs' GL1 D16 (.cons (.ife (.not (.call 15 "_law_good" (.cons (.var 1) (.cons (.var 2) (.cons (.var 5) (.cons (.pur (.call 55 "_law_ink" (.cons (.call 41 "_law_spread" (.cons (.call 39 "_law_cell" (.cons (.var 0) (.cons (.bin .Add (.var 3) (.int 8)) .nil))) (.cons (.var 3) .nil))) .nil))) (.cons (.var 6) .nil))))))) (.cons (.ret (.pur (.bl false))) .nil) .nil) .nil) ⟨[some (.dat (scr ns)),some (.dat (.int (w:Int))),some (.dat (.int (h:Int))),some (.dat (.int k)),some (.dat (.int x)),some (.loc n),some (.dat o)],O4⟩) (KLM (λs=>∃ (o3 o4 o5 o6:Option W) (O1:Mem),s=⟨[some (.dat (scr ns)),some (.dat (.int (w:Int))),some (.dat (.int (h:Int))),o3,o4,o5,o6],O1⟩) (KM GL1 D16 (.cons (.ret (.pur (.bl true))) .nil) (KFM λx=>x.1=.dat (.bl true)))):=λo t ho ht=>by
   refine zAB (zCU (zGo (zBR (F:=FM57) rfl (zAE (zAO rfl (zAE (zAO rfl (zAE (zAO rfl (zAE (zAf rfl ?_)))))))))));refine zAM rfl (zAD (zAM rfl (zAD (zAM rfl (zAD (zAH (zAG rfl zAJ) (n_cl (zAD (zAc (zAH (zAG rfl zAJ) (zAN (zDt (n_cl (zAe ?_))))))))))))));refine h39 ns (k+8) _ (by omega) ?_;refine n_cl (n_cl (zAD (zAH (zAG rfl zAJ) (n_cl (zAe ?_)))));refine h41 _ k _ (by omega) (by omega) λx2=>?_
   refine n_cl (n_cl (zAe ?_));refine h55 x2 _ λr g b i1 i2 i3=>?_
   refine n_cl (zAo rfl (zAE (zAO rfl (zAg ?_))));refine(show EvP (FM57 [.dat (.int (w:Int)),.dat (.int (h:Int)),.loc n,.dat (inkD r g b),.dat o] O4) _ from ?_);refine m57 f1 f2 ht i1 i2 i3 ho R1 fun μ2 q2=>⟨true,rfl,(λz=>nomatch z),λ_=>zAx (zAW (zAx ?_))⟩
   exact⟨_,_,_,_,_,rfl⟩
  refine zAB (zCU (zFz rfl (zBq (zAc (zAH (zAG rfl zAJ) (zAN (zBB (by decide) (zAN (c_gt ?_)))))))));refine⟨_,rfl,λ_=>?_,λ_=>zAx (zAW (go .non 1 (.inl ⟨rfl,rfl⟩) (zDe.mono (by decide))))⟩;refine zAB (zA6 (zAf rfl (zAM rfl (zAD (zAM rfl (zAD (zAM rfl (zAD (zAH (zAG rfl zAJ) (n_cl (zAD (zAc (zAH (zAG rfl zAJ) (zAN (zDt (n_cl (zAe ?_)))))))))))))))));refine h39 ns (k+4) _ (by omega) ?_;refine n_cl (n_cl (zAD (zAc (zAH (zAG rfl zAJ) (zAN (zDt (n_cl (zAe ?_))))))));refine h41 _ (k+4) _ (by omega) (by omega) λx2=>?_
  refine n_cl (n_cl (zAe ?_));refine h46 x2 _ λt rt _ _=>?_
  refine n_cl (zAo rfl (zAW (zAx (zAW ?_))));(walk_at "s");exact go (ratD t) t (.inr rfl) rt
 .rintro s ⟨o3,o4,o5,o6,O1,rfl⟩;exact zAW (zAB (zB1 (zAf rfl (zNG (zAo rfl (zEK rfl))))))
theorem law_true (ns:List Int)(hn:ns.length<=63):∃ O,FM58 [.dat (.lst (ns.map D.int))] []=some (.dat (.bl true),O):=by
 obtain⟨⟨w,O⟩,e,q⟩:=zSO ns hn;cases q;exact⟨O,e⟩
end Q
end
namespace PySem.W.Fast
def tw6296782747344873225:=0
def tw5132489430679402777:=0
def tw4455773369007602090:=0
def tw18435882451088687923:=0
def tw10644266079184874837:=0
def tw12063612809896539796:=0
def tw13209686115271263548:=0
def tw7329690150287281094:=0
def tw9299431425261157910:=0
def tw12044802493806110925:=0
def tw10838847559338871160:=0
def tw2497414693823978176:=0
def tw2219596144177555022:=0
def tw11128567786327019853:=0
def tw14715807538632464037:=0
def tw5482243576259592930:=0
def tw16667906890441369799:=0
def tw1525082809140421149:=0
def tw15150320806438566340:=0
def tw11641647807851103872:=0
def tw11100056283163276436:=0
def tw7704119735533498928:=0
def tw3740222913870622079:=0
def tw9442640181530777430:=0
def tw14605180378678247063:=0
def tw17363662855788167990:=0
def tw1932787352201719078:=0
def tw10697550185198339571:=0
def tw1703813427133977143:=0
def tw7380237824252658813:=0
def tw3472670391545792006:=0
def tw3450365770576119365:=0
def tw304976048973454937:=0
def tw16390695271012473992:=0
def tw1083464330894365430:=0
def tw10503248474950233724:=0
def tw12806101574064158250:=0
def tw7045395475004883402:=0
def tw8510483125321174476:=0
def tw5396025346288410416:=0
def tw12860977416232015262:=0
def tw6479688489572858613:=0
def tw12856436818896930879:=0
def tw8399449257667671012:=0
def tw9752179958768622022:=0
def tw16216463143001666266:=0
def tw16633141762739851299:=0
def tw16380280985501212585:=0
def tw16807794514478577830:=0
def tw5399311531627566924:=0
def tw16587251827876102925:=0
def tw16176665817363028738:=0
def tw12680770640148747125:=0
def tw791090421720398244:=0
def tw3147780486791170008:=0
def tw1435354518375358747:=0
def tw17905426706764265604:=0
def tw13665916010535166629:=0
def tw2548839080452865159:=0
def tw14166638874983572594:=0
def tw4462273818830740174:=0
def tw6700894779405195567:=0
def tw13820589800700853755:=0
def tw11189922755755413107:=0
def tw237262478685140912:=0
def tw4148692229084626095:=0
def tw828032965181716989:=0
def tw12942951610019893049:=0
def tw17929174107264625148:=0
def tw14528061135921786780:=0
def tw1524334040213344809:=0
def tw5527307936961555007:=0
def tw6890564125714558973:=0
def tw10360991350226792272:=0
def tw2374259436843906311:=0
def tw8863472659149584071:=0
def tw12290163934833188390:=0
def tw8170702152672045614:=0
def tw5811876992035796813:=0
def tw8285005907891130869:=0
def tw469544225175693612:=0
def tw13721717560569781983:=0
def tw3016810005719892216:=0
def tw4132044870569032308:=0
def tw10320325369730702973:=0
def tw2598947725865151938:=0
def tw18441688310685469077:=0
def tw110955406433419780:=0
def tw473815810773901008:=0
def tw16900932352046814573:=0
def tw8486466379789578170:=0
def tw11461602744140192062:=0
def tw13169432770862600902:=0
def tw13434464095651667814:=0
def tw5775483566954442790:=0
def tw12484073936995962776:=0
def tw13670846333863514543:=0
end PySem.W.Fast
open PySem PySem.W PyProof.Rows
set_option maxRecDepth 100000 in
set_option maxHeartbeats 0 in
theorem PySem.Challenge.cw_coverfill_k31_leaves_holds : PySem.Challenge.rw_coverfill_k31_leaves.Holds := by
  w_on; o_law; k_head; (case hw => w_witness2)
  k_fill
  refine DL.walkM (k := 69) (F := Q.FM58) (l := PySem.Challenge.rw_coverfill_k31_leaves) rfl rfl (by decide +kernel) (λ_ => rfl) ⟨rfl, by decide, by decide⟩ [(("thinned_covers" : PySem.Str), 304, 300), (("Fill.films" : PySem.Str), 359, 355)] ?hrec ?htl ?htk ?hnd ?hnt (λw h Y => PySem.W.km_in_of Y) ?F Q.law_true
  case hrec =>
    intro w h Y t ht
    simp only[List.mem_cons, List.not_mem_nil, or_false] at ht
    rcases ht with rfl | rfl
    · exact⟨PySem.W.codeHd_of_K (PySem.W.km_in_of Y) (by kernel_rfl), PySem.W.km_tabs_of Y _ (by decide)⟩
    · exact⟨PySem.W.codeHd_of_K (PySem.W.km_in_of Y) (by kernel_rfl), PySem.W.km_tabs_of Y _ (by decide)⟩
  case htl => exact λ_ => DL.tabs_of (by kernel_rfl) (by kernel_rfl) (by kernel_rfl) (by kernel_rfl)
  case htk => exact by decide
  case hnd => exact by decide
  case hnt => exact λ_ => by kernel_rfl
  case F =>
    intro w mg fa h KX G hmg
    refine' Q.all_mk KX G hmg (lc0 := 304) (lp0 := 300) (by kernel_rfl) (lc1 := 359) (lp1 := 355) (by kernel_rfl) (DL.ft ?_ ?_ ?_ ?_) (DL.ft ?_ ?_ ?_ ?_) (DL.ft ?_ ?_ ?_ ?_) (DL.ft ?_ ?_ ?_ ?_) (DL.ft ?_ ?_ ?_ ?_) (DL.ft ?_ ?_ ?_ ?_) (DL.ft ?_ ?_ ?_ ?_) (DL.ft ?_ ?_ ?_ ?_) (DL.ft ?_ ?_ ?_ ?_) (DL.ft ?_ ?_ ?_ ?_) (DL.ft ?_ ?_ ?_ ?_) (DL.ft ?_ ?_ ?_ ?_) (DL.ft ?_ ?_ ?_ ?_) (DL.ft ?_ ?_ ?_ ?_) (DL.ft ?_ ?_ ?_ ?_) (DL.ft ?_ ?_ ?_ ?_) (DL.ft ?_ ?_ ?_ ?_) (DL.ft ?_ ?_ ?_ ?_) (DL.ft ?_ ?_ ?_ ?_) (DL.ft ?_ ?_ ?_ ?_) (DL.ft ?_ ?_ ?_ ?_) (DL.ft ?_ ?_ ?_ ?_) (DL.ft ?_ ?_ ?_ ?_) (DL.ft ?_ ?_ ?_ ?_) (DL.ft ?_ ?_ ?_ ?_) (DL.ft ?_ ?_ ?_ ?_) (DL.ft ?_ ?_ ?_ ?_) (DL.ft ?_ ?_ ?_ ?_) (DL.ft ?_ ?_ ?_ ?_) (DL.ft ?_ ?_ ?_ ?_) (DL.ft ?_ ?_ ?_ ?_) (DL.ft ?_ ?_ ?_ ?_) (DL.ft ?_ ?_ ?_ ?_) (DL.ft ?_ ?_ ?_ ?_) (DL.ft ?_ ?_ ?_ ?_) (DL.ft ?_ ?_ ?_ ?_) (DL.ft ?_ ?_ ?_ ?_) (DL.ft ?_ ?_ ?_ ?_) (DL.ft ?_ ?_ ?_ ?_) (DL.ft ?_ ?_ ?_ ?_) (DL.ft ?_ ?_ ?_ ?_) (DL.ft ?_ ?_ ?_ ?_) (DL.ft ?_ ?_ ?_ ?_) (DL.ft ?_ ?_ ?_ ?_) (DL.ft ?_ ?_ ?_ ?_) (DL.ft ?_ ?_ ?_ ?_) (DL.ft ?_ ?_ ?_ ?_) (DL.ft ?_ ?_ ?_ ?_) (DL.ft ?_ ?_ ?_ ?_) (DL.ft ?_ ?_ ?_ ?_) (DL.ft ?_ ?_ ?_ ?_) (DL.ft ?_ ?_ ?_ ?_) (DL.ft ?_ ?_ ?_ ?_) (DL.ft ?_ ?_ ?_ ?_) (DL.ft ?_ ?_ ?_ ?_) (DL.ft ?_ ?_ ?_ ?_) (DL.ft ?_ ?_ ?_ ?_) (DL.ft ?_ ?_ ?_ ?_) ?a58 ?l58 ?c58 ?k58 ?z0 ?z1 ?z2 ?z3 ?z4 ?z5 ?z6 ?z7 ?z8 ?z9 ?z10 ?ca0 ?cl0 ?cv0 ?ca1 ?cl1 ?cv1 ?ca2 ?cl2 ?cv2 ?oa_u0 ?pg_u0 ?hd_u0 ?po_u0 ?sa_u0 ?mk_u0 ?kc_u0 ?nf_u0_shape ?nf_u0_ink ?nf_u0_strength ?cc_u0 ?mr_u0 ?oa_u1 ?pg_u1 ?hd_u1 ?po_u1 ?sa_u1 ?mk_u1 ?kc_u1 ?nf_u1_shape ?nf_u1_strength ?cc_u1 ?mr_u1 ?oa_iso ?sp_iso ?tk_iso ?ki_u0 ?ki_u1 ?m_q0 ?i_q0 ?l_q0 ?c_q0 ?k_q0 ?lT_q0 ?m_q1 ?i_q1 ?l_q1 ?c_q1 ?k_q1 ?m_q2 ?i_q2 ?l_q2 ?c_q2 ?k_q2 ?lT_q2 ?m_q3 ?i_q3 ?l_q3 ?c_q3 ?k_q3
    all_goals try k_is
    all_goals try k_is
    all_goals first | rfl | decide +kernel | k_exc | kit_is | kts_exm

import PyProof.Rows.All
import Wide.All
import OpenK.AllK
import Wide.FinOn
import Lean
import PySem.Challenge.RW_coverfill_k36_layers_by_number
set_option Elab.async false
set_option linter.all false
set_option maxRecDepth 100000
set_option maxHeartbeats 4000000
set_option compiler.extract_closed false
theorem zzf {p:Prop}(h:false=true):p:=nomatch h
theorem zzb (h:Nat.ble a b=true):a<=b:=Nat.le_of_ble_eq_true h
theorem zzg {U:Type _}{l:List U}{i:Nat}{a:U}(h:l[i]?=some a):∃ w:i<l.length,l[i]=a:=List.getElem?_eq_some_iff.mp h
noncomputable section
open Bool (and_eq_true)
open PySem.Heap (lt_size get?_push_of_some get?_push_size)
open Nat (le_refl le_trans ne_of_lt lt_irrefl zero_le lt_of_lt_of_le sub_self)
open Option (map_eq_some_iff)
open Classical (choose_spec)
open Int (toNat_natCast fmod_nonneg_of_pos fmod_lt_of_pos)
open List (all_eq_true append_assoc append_nil filter_cons flatten_cons forIn_cons getElem?_append_left getElem?_append_right getElem?_eq_getElem getElem?_eq_none getElem?_map getElem?_range getElem?_replicate getElem?_set_ne getElem?_set_self length_append length_cons length_filter_le length_range length_replicate length_set length_singleton length_take lookup_cons map_append map_cons map_map map_nil mem_append mem_append_right mem_cons mem_cons_of_mem mem_cons_self mem_filter mem_map mem_of_getElem? mem_range mem_singleton nodup_cons not_mem_nil of_mem_zip range_succ replicate_succ reverse_cons size_toArray)
def qx:=@Option.bind_some
def qy:=@decide_eq_true_eq
def qj:=@length_append
def qQ:=@PySem.wpAny_bind
def qX:=@Bool.false_ne_true
def qY:=@mem_cons_of_mem
def qJ:=@append_assoc
def q8:=@mem_cons_self
def q9:=@PySem.wpAny_pure
def xq:=@mem_append_right
def xy:=@size_toArray
def xj:=@Option.some.inj
def xQ:=@lt_of_lt_of_le
def xX:=@fmod_nonneg_of_pos
def xY:=@length_cons
def xJ:=@map_append
def x8:=@and_eq_true
def x9:=@map_eq_some_iff
section
namespace L2
open PySem Spec PyProof.Rows
abbrev Key:=Sum Int Str
noncomputable def zIY:Key->Value->Bool
 | .inl k,v=>Value.isInt k v
 | .inr x,v=>Value.isStrOf x v
noncomputable def keyH (w:World):Key->Int
 | .inl k=>hashInt k
 | .inr x=>hashStr w x
theorem zA1:∀ {k:Key} {v:Value},zIY k v=true->(∃ i t,k=Sum.inl i/\v=Value.int i t)\/(∃ x t,k=Sum.inr x/\v=Value.str x t)
 | .inl i,v,h=>by
  obtain⟨t,e⟩:=Value.isInt_shape (k:=i) (v:=v) h;exact .inl ⟨i,t,rfl,e⟩
 | .inr x,v,h=>by
  obtain⟨t,e⟩:=Value.isStrOf_shape (x:=x) (v:=v) h;exact .inr ⟨x,t,rfl,e⟩
theorem zJm (i:Int)(t:Tok):zIY (.inl i) (.int i t)=true:=by simp[zIY,Value.isInt]
theorem zJl (x:Str)(t:Tok):zIY (.inr x) (.str x t)=true:=by simp[zIY,Value.isStrOf]
theorem zQy (a b:Int):decide ((Sum.inl a:Key)=Sum.inl b)=(a==b):=by grind
theorem zQv (a b:Str):decide ((Sum.inr a:Key)=Sum.inr b)=decide (a=b):=by simp
theorem zQx (a:Int)(b:Str):decide ((Sum.inl a:Key)=Sum.inr b)=false:=rfl
theorem zQw (a:Str)(b:Int):decide ((Sum.inr a:Key)=Sum.inl b)=false:=rfl
noncomputable def zBO (prog:Program)(w:World):PySem.KeyKind prog w Key where
 is:=zIY
 hash:=keyH w
 inj:=λv a b ha hb=>by
  rcases zA1 ha with ⟨i,t,rfl,rfl⟩ | ⟨x,t,rfl,rfl⟩
  .rcases zA1 hb with ⟨j,u,rfl,e⟩ | ⟨y,u,rfl,e⟩
   .injection e with e1 _;rw[e1]
   .exact nomatch e
  .rcases zA1 hb with ⟨j,u,rfl,e⟩ | ⟨y,u,rfl,e⟩
   .exact nomatch e
   .injection e with e1 _;rw[e1]
 byValue:=λk v h=>by
  rcases zA1 h with ⟨i,t,rfl,rfl⟩ | ⟨x,t,rfl,rfl⟩<;>rfl
 pyHash:=λhv h=>by
  rcases zA1 hv with ⟨i,t,rfl,rfl⟩ | ⟨x,t,rfl,rfl⟩
  .exact wpAny_pyHash_int h
  .exact wpAny_pyHash_str h
 eqBool:=λhu hv h=>by
  rcases zA1 hu with ⟨i,t,rfl,rfl⟩ | ⟨x,t,rfl,rfl⟩
  .rcases zA1 hv with ⟨j,u,rfl,rfl⟩ | ⟨y,u,rfl,rfl⟩
   .rw [zQy] at h;exact wpAny_eqBool_int h
   .rw [zQx] at h;exact SeqAt.EqAt.int_str i t y u _ _ _ _ h
  .rcases zA1 hv with ⟨j,u,rfl,rfl⟩ | ⟨y,u,rfl,rfl⟩
   .rw [zQw] at h;exact SeqAt.EqAt.str_int x t j u _ _ _ _ h
   .rw [zQv] at h;exact wpAny_eqBool_str h
 «strs»:=λk x t v h=>by
  rcases zA1 h with ⟨i,u,rfl,e⟩ | ⟨y,u,rfl,e⟩
  .exact nomatch e
  .injection e with e1 _
   subst e1;cases v<;>rfl
theorem zGr (prog:Program)(w:World)(i:Int)(t:Tok):(zBO prog w).is (.inl i) (.int i t)=true:=zJm i t
theorem zGq (prog:Program)(w:World)(x:Str)(t:Tok):(zBO prog w).is (.inr x) (.str x t)=true:=zJl x t
end L2
namespace L2
open PySem Spec PyProof.Rows
inductive V where
 | non | bl (b:Bool) | int (i:Int) | str (x:Str) | byt (b:Array UInt8) | flt (b:UInt64) | ref (a:Addr) | ty (n:String)
 deriving DecidableEq
def RelV:V->Value->Prop
 | .non,u=>u=Value.none
 | .bl b,u=>u=Value.bool b
 | .int i,u=>∃ t,u=Value.int i t
 | .str x,u=>∃ t,u=Value.str x t
 | .byt b,u=>∃ t,u=Value.bytes b t
 | .flt b,u=>∃ t,u=Value.float b t
 | .ref a,u=>u=Value.ref a
 | .ty n,u=>u=Value.type n
abbrev Vals:List V->List Value->Prop:=Paired RelV
theorem Vals.length (r:Vals xs us):xs.length=us.length:=Paired.length r
theorem Vals.get:∀ {xs:List V} {us:List Value} {i:Nat} {x:V},Vals xs us->xs[i]?=some x->∃ u,us[i]?=some u/\RelV x u
 | _,_,_,_,.nil,e=>by simp at e
 | _,_,0,_,.cons r _,e=>by simp at e;subst e;exact⟨_,rfl,r⟩
 | _,_,i+1,x,.cons _ t,e=>by
  obtain⟨u,h1,h2⟩:=Vals.get (i:=i) (x:=x) t (by simpa using e);exact⟨u,by simpa using h1,h2⟩
theorem Vals.set (r:RelV x u):∀ {xs:List V} {us:List Value} (i:Nat),Vals xs us->Vals (xs.set i x) (us.set i u)
 | _,_,_,.nil=>.nil
 | _,_,0,.cons _ t=>.cons r t
 | _,_,i+1,.cons q t=>.cons q (Vals.set r i t)
theorem Vals.append:∀ {xs ys:List V} {us ws:List Value},Vals xs us->Vals ys ws->Vals (xs++ys) (us++ws)
 | _,_,_,_,.nil,s=>s
 | _,_,_,_,.cons r t,s=>.cons r (Vals.append t s)
theorem Vals.take:∀ {xs:List V} {us:List Value} (n:Nat),Vals xs us->Vals (xs.take n) (us.take n)
 | _,_,0,_=>.nil
 | _,_,_+1,.nil=>.nil
 | _,_,n+1,.cons r t=>.cons r (Vals.take n t)
theorem Vals.drop:∀ {xs:List V} {us:List Value} (n:Nat),Vals xs us->Vals (xs.drop n) (us.drop n)
 | _,_,0,r=>r
 | _,_,_+1,.nil=>.nil
 | _,_,n+1,.cons _ t=>Vals.drop n t
def RelO:Option V->Option Value->Prop
 | some v,some u=>RelV v u
 | none,none=>True
 | _,_=>False
def KV {c:Type}:List (c×V)->List (c×Value)->Prop:=Paired λ(p:c×V) (q:c×Value)=>p.1=q.1/\RelV p.2 q.2
noncomputable def kV:Key->V
 | .inl i=>.int i
 | .inr x=>.str x
set_option genSizeOf false in
set_option genInjectivity false in
inductive HO where
 /-- a list -/
 | lst (xs:List V)
 /-- a tuple (never changes) -/
 | tup (xs:List V)
 /-- a dict whose keys are ints and texts;one whose keys are tuples of ints and texts (the empty one is both) -/
 | dK (kvs:List (Key×V)) | dT (kvs:List (List Key×V))
 /-- a set of ints: its members,its size -/
 | set (S:Int->Bool) (n:Nat)
 /-- an instance of the class at C,its dict at dx,its attributes -/
 | ins (C dx:Addr) (fs:List (Str×V))
 /-- the dict of the instance at x -/
 | own (x:Addr)
 /-- the dict of an exception -/
 | xd (fs:List (Str×V))
 /-- a bound method,f of x -/
 | met (f x:Addr)
 /-- a range object lo,lo+1,.. below hi -/
 | rng (lo hi:Int)
 /-- a thing that is known to the object (the script;a dict while a loop walks it): read,never written while it is so -/
 | frz (o:Obj) (u:HO)
 /-- a code object's table: the codes of the defs made within,all of this name -/
 | tbl (q:Str)
 /-- any other thing,by what is true of its one object (a def of one's own: SetO a S n:=HO.ext λh=>..) -/
 | ext (g:Heap->Prop)
abbrev Hp:=Addr->Option HO
noncomputable def upd (H:Hp)(a:Addr)(o:HO):Hp:=λb=>if b=a then some o else H b
theorem zAX :upd H a o a=some o:=by unfold upd;rw[if_pos rfl]
theorem zAN (h:b≠a):upd H a o b=H b:=by unfold upd;rw[if_neg h]
theorem zSa {H:Hp}(h:H a=some o)(h':H b=some u)(d:o≠u):a≠b:=by
 intro e;subst e;rw[h] at h';exact d (xj h')
theorem zAy {H:Hp}(h:H a=some o)(h':H b=none):a≠b:=by grind
section
variable (P:Program)(w:World)
def zK3 (o:Obj)(q:Str):Prop:=∃ vs t,o.data=.fields vs/\vs[1]?=some (.str q t)
def zBz (H:Hp)(h:Heap)(a:Addr):HO->Prop
 | .lst xs=>xs.length<=sizeLine/\∃ (its:List Value) (n:Nat),Vals xs its/\h.get? a=some { cls:=.type "list",data:=.seq its.toArray n }
 | .tup xs=>xs.length<=sizeLine/\∃ its:List Value,Vals xs its/\IsTup h a its.toArray
 | .dK kvs=>kvs.length<=sizeLine/\(a==sysModules)=false/\∃ vs,KV kvs vs/\h.DictOf (zBO P w) a vs
 | .dT kvs=>kvs.length<=sizeLine/\(a==sysModules)=false/\∃ xs:List (List Key×Addr×Value),
   Paired (λ(p:List Key×V) (q:List Key×Addr×Value)=>p.1=q.1/\H q.2.1=some (.tup (p.1.map kV))/\RelV p.2 q.2.2) kvs xs /\
   ∃ o es ep,h.get? a=some o/\o.ExactDict/\o.data=.dict es ep/\es.toList=xs.map (entryOfKey (tupleKind (zBO P w)))/\(xs.map (·.1)).Nodup
 | .set S n=>h.SetOf (intKind P w) a S n
 | .ins C dx fs=>H dx=some (.own a)/\fs.length<=1000/\dx≠a/\h.get? a=some (W.instObj C dx) /\
   ∃ mA,h.Ns1 dx mA/\(∀ f,RelO (fs.lookup f) (mA f))/\PySem.Within mA (fs.map (·.1))
 | .own _=>∃ o,h.get? a=some o
 | .xd fs=>∃ mA,h.Ns1 a mA/\∀ f,RelO (fs.lookup f) (mA f)
 | .rng lo hi=>∃ t u v,h.get? a=some { cls:=.type "range",data:=.fields #[.int lo t,.int hi u,.int 1 v] }
 | .frz o u=>h.get? a=some o/\zBz H h a u
 | .tbl q=>∃ ps:Array Value,h.get? a=some { cls:=.none,data:=.fields ps }/\TriplesOk ps.toList/\∀ pos cv,codeAmong pos ps.toList=some cv->∃ c oc u,cv=.ref c/\H c=some (.frz oc u)/\zK3 oc q
 | .met f x=>h.get? a=some (W.methodObj (.ref f) (.ref x))
 | .ext g=>g h/\(∃ o,h.get? a=some o)/\∀ h1 h2:Heap,g h1->(∀ o,h1.get? a=some o->h2.get? a=some o)->g h2
def HOk (H:Hp)(h:Heap):Prop:=∀ a o,H a=some o->zBz P w H h a o
end
section
variable {P:Program}{w:World}{H H':Hp}{h h':Heap}{a:Addr}{o:HO}
theorem zBz.lt (x:zBz P w H h a o):a < h.objs.size:=by
 cases o with
 | lst xs=>obtain⟨_,_,_,_,e⟩:=x;exact lt_size e
 | tup xs=>obtain⟨_,_,_,p⟩:=x;exact p.lt
 | dK kvs=>obtain⟨_,_,_,_,o,_,_,e,_⟩:=x;exact lt_size e
 | dT kvs=>obtain⟨_,_,_,_,o,_,_,e,_⟩:=x;exact lt_size e
 | set S n=>obtain⟨o,_,_,_,e,_⟩:=x;exact lt_size e
 | ins C dx fs=>obtain⟨_,_,_,e,_⟩:=x;exact lt_size e
 | own y=>obtain⟨_,e⟩:=x;exact lt_size e
 | xd fs=>obtain⟨_,⟨_,_,_,e,_⟩,_⟩:=x;exact lt_size e
 | rng lo hi=>obtain⟨_,_,_,e⟩:=x;exact lt_size e
 | frz ob u=>obtain⟨e,_⟩:=x;exact lt_size e
 | tbl q=>obtain⟨ps,e,_⟩:=x;exact lt_size e
 | met f y=>exact lt_size (show h.get? a=some _ from x)
 | ext g=>obtain⟨_,⟨_,e⟩,_⟩:=x;exact lt_size e
theorem Paired.mapP {U Z:Type}{F G:U->Z->Prop}:∀ {Z9:List U} {U2:List Z},Paired F Z9 U2->(∀ a b,F a b->G a b)->Paired G Z9 U2
 | _,_,.nil,_=>.nil
 | _,_,.cons r t,f=>.cons (f _ _ r) (Paired.mapP t f)
theorem zBz.stay (x:zBz P w H h a o)(k:∀ b u,(b=a\/H b=some (.own a))->h.get? b=some u->h'.get? b=some u)
  (ho:∀ b,H b=some (.own a)->H' b=some (.own a)) (ht:∀ b xs,H b=some (.tup xs)->H' b=some (.tup xs)) (hf:∀ b ob u,H b=some (.frz ob u)->(∃ vs,ob.data=.fields vs)->H' b=some (.frz ob u)):zBz P w H' h' a o:=by
 induction o with
 | lst xs=>obtain⟨z,its,n,r,e⟩:=x;exact⟨z,its,n,r,k _ _ (.inl rfl) e⟩
 | tup xs=>obtain⟨z,its,r,ob,e,c⟩:=x;exact⟨z,its,r,ob,k _ _ (.inl rfl) e,c⟩
 | dK kvs=>obtain⟨z,y,vs,r,ob,es,ep,e,c⟩:=x;exact⟨z,y,vs,r,ob,es,ep,k _ _ (.inl rfl) e,c⟩
 | dT kvs =>
  obtain⟨z,y,xs,r,ob,es,ep,e,c⟩:=x;exact⟨z,y,xs,Paired.mapP r λp q z=>⟨z.1,ht _ _ z.2.1,z.2.2⟩,ob,es,ep,k _ _ (.inl rfl) e,c⟩
 | set S n=>obtain⟨ob,es,ep,t,e,c⟩:=x;exact⟨ob,es,ep,t,k _ _ (.inl rfl) e,c⟩
 | ins C dx fs =>
  obtain⟨d,z,ne,e,mA,⟨od,es,ep,e2,c⟩,r⟩:=x;exact⟨ho _ d,z,ne,k _ _ (.inl rfl) e,mA,⟨od,es,ep,k _ _ (.inr d) e2,c⟩,r⟩
 | own y=>obtain⟨ob,e⟩:=x;exact⟨ob,k _ _ (.inl rfl) e⟩
 | xd fs=>obtain⟨mA,⟨od,es,ep,e,c⟩,r⟩:=x;exact⟨mA,⟨od,es,ep,k _ _ (.inl rfl) e,c⟩,r⟩
 | rng lo hi=>obtain⟨t,u,v,e⟩:=x;exact⟨t,u,v,k _ _ (.inl rfl) e⟩
 | frz ob u ih=>obtain⟨e,q⟩:=x;exact⟨k _ _ (.inl rfl) e,ih q⟩
 | tbl q =>
  obtain⟨ps,e,t,c⟩:=x;exact⟨ps,k a _ (.inl rfl) e,t,λpos cv z=>let ⟨c1,oc,u,e1,e2,e3⟩:=c pos cv z;⟨c1,oc,u,e1,hf _ _ _ e2 (let ⟨vs,_,d,_⟩:=e3;⟨vs,d⟩),e3⟩⟩
 | met f y =>
  have e:=x;exact k a _ (.inl rfl) e
 | ext g=>obtain⟨p,⟨o,e⟩,st⟩:=x;exact⟨st _ _ p λo q=>k _ _ (.inl rfl) q,⟨o,k _ _ (.inl rfl) e⟩,st⟩
theorem HOk.lt (x:HOk P w H h)(e:H a=some o):a < h.objs.size:=(x a o e).lt
theorem HOk.fresh (x:HOk P w H h)(e:h.objs.size<=a):H a=none:=by
 cases q:H a with
 | none=>rfl
 | some u=>exact absurd (xQ (x.lt q) e) (lt_irrefl _)
theorem HOk.kept (x:HOk P w H h)(k:∀ b u,h.get? b=some u->h'.get? b=some u):HOk P w H h':=λa o e =>
 (x a o e).stay (λb u _ q=>k b u q) (λ_ q=>q) (λ_ _ q=>q) λ_ _ _ q _=>q
theorem HOk.laid (x:HOk P w H h)(k:∀ b u,h.get? b=some u->h'.get? b=some u)(hp:h.objs.size<=a)(new:zBz P w (upd H a o) h' a o):HOk P w (upd H a o) h':=λb u e=>by
 have hn:=x.fresh hp;by_cases hb:b=a
 .subst hb;rw[zAX] at e;cases e;exact new
 .rw [zAN hb] at e;exact(x b u e).stay (λc v _ q=>k c v q) (λc q=>by rw[zAN (zAy q hn)];exact q) (λc xs q=>by rw[zAN (zAy q hn)];exact q) λc ob u q _=>by rw[zAN (zAy q hn)];exact q
end
def Rd (H:Hp)(a:Addr)(u:HO):Prop:=H a=some u\/∃ o,H a=some (.frz o u)
theorem Rd.ok (r:Rd H a u)(x:HOk P w H h):zBz P w H h a u:=by
 rcases r with r | ⟨o,r⟩
 .exact x a u r
 .obtain ⟨_,q⟩:=x a _ r;omega
def Mut:Option HO->Prop
 | some (.lst _)=>True
 | some (.dK _)=>True
 | some (.dT _)=>True
 | some (.set _ _)=>True
 | some (.ins _ _ _)=>True
 | some (.ext _)=>True
 | _=>False
section
variable {P:Program}{w:World}{H:Hp}{h h':Heap}{x e:Addr}{o':HO}
theorem HOk.write (ok:HOk P w H h)(mu:Mut (H x))(he:e=x\/H e=some (.own x))(k:∀ b u,b≠e->h.get? b=some u->h'.get? b=some u)(heo:∃ u,h'.get? e=some u)
  (new:zBz P w (upd H x o') h' x o'):HOk P w (upd H x o') h':=λb u q=>by
 have nown:∀ c y,H c=some (.own y)->c≠x:=λc y r z=>by subst z;rw[r] at mu;exact mu
 by_cases hb:b=x
 .subst hb;rw[zAX] at q;cases q;exact new
 .rw [zAN hb] at q;by_cases hbe:b=e
  .have q':H b=some (.own x):=by
    grind
   rw[q] at q';cases q';obtain⟨v,hv⟩:=heo;exact⟨v,by rw[hbe];exact hv⟩
  .refine (ok b u q).stay (λc v hc r=>k c v ?_ r) (λc r=>by rw[zAN (nown c b r)];exact r) (λc xs r=>by rw[zAN ((λc xs r z=>by subst z;rw[r] at mu;exact mu) c xs r)];exact r) λc ob v r _=>by rw[zAN ((λc ob v r z=>by subst z;rw[r] at mu;exact mu) c ob v r)];exact r
   rcases hc with rfl | hc
   .exact hbe
   .rintro rfl;rcases he with z | z
    .grind
    .rw [hc] at z;cases z;exact hb rfl
end
structure Un (fs ex:List Addr)(H H':Hp)(h h':Heap):Prop where
 keep:∀ b o,h.get? b=some o->H b=none->b∉fs->b∉ex->h'.get? b=some o
 slot:∀ b o,h.get? b=some o->H b=none->b∈fs->b∉ex->∃ sl,h'.get? b=some { o with slots:=sl }
 free:∀ b o,h.get? b=some o->H b=none->b∉ex->H' b=none
 there:∀ b o,h.get? b=some o->b∉ex->∃ o',h'.get? b=some o'
 tups:∀ b xs,H b=some (.tup xs)->H' b=some (.tup xs)
 frzs:∀ b o u,H b=some (.frz o u)->H' b=some (.frz o u)
 tbls:∀ b q,H b=some (.tbl q)->H' b=some (.tbl q)
section
variable {fs fs' ex ex':List Addr}{H H1 H2:Hp}{h h1 h2 h':Heap}{a x e:Addr}{o:HO}
theorem Un.any (u:Un fs ex H H1 h h1)(q:h.get? b=some ob)(n:H b=none)(hx:b∉ex):∃ sl,h1.get? b=some { ob with slots:=sl }:=by
 by_cases hb:b∈fs
 .exact u.slot b ob q n hb hx
 .exact ⟨ob.slots,u.keep b ob q n hb hx⟩
theorem Un.trans (a:Un fs ex H H1 h h1)(b:Un fs ex H1 H2 h1 h2):Un fs ex H H2 h h2 where
 keep:=λc ob q n hc hx=>b.keep c ob (a.keep c ob q n hc hx) (a.free c ob q n hx) hc hx
 slot:=λc ob q n hc hx=>by
  obtain⟨sl,e1⟩:=a.slot c ob q n hc hx;obtain⟨sl',e2⟩:=b.slot c _ e1 (a.free c ob q n hx) hc hx;exact⟨sl',e2⟩
 free:=λc ob q n hx=>by
  obtain⟨o',e1⟩:=a.there c ob q hx;exact b.free c o' e1 (a.free c ob q n hx) hx
 there:=λc ob q hx=>by
  obtain⟨o',e1⟩:=a.there c ob q hx;exact b.there c o' e1 hx
 tups:=λc xs q=>b.tups c xs (a.tups c xs q)
 frzs:=λc ob xs q=>b.frzs c ob xs (a.frzs c ob xs q)
 tbls:=λc ps q=>b.tbls c _ (a.tbls c ps q)
theorem Un.kept (k:∀ b u,h.get? b=some u->h'.get? b=some u):Un fs ex H H h h' :=
 ⟨λb ob q _ _ _=>k b ob q,λb ob q _ _ _=>⟨ob.slots,k b ob q⟩,λ_ _ _ n _=>n,λb ob q _=>⟨ob,k b ob q⟩,λ_ _ q=>q,λ_ _ _ q=>q,λ_ _ q=>q⟩
theorem Un.refl:Un fs ex H H h h:=Un.kept λ_ _ q=>q
theorem Un.laid (k:∀ b u,h.get? b=some u->h'.get? b=some u)(hp:h.objs.size<=a)(hn:H a=none):Un fs ex H (upd H a o) h h' where
 keep:=λb u q _ _ _=>k b u q
 slot:=λb u q _ _ _=>⟨u.slots,k b u q⟩
 free:=λb u q n _=>by rw[zAN (ne_of_lt (xQ (lt_size q) hp))];exact n
 there:=λb u q _=>⟨u,k b u q⟩
 tups:=λb xs q=>by rw[zAN (zAy q hn)];exact q
 frzs:=λb u xs q=>by rw[zAN (zAy q hn)];exact q
 tbls:=λb ps q=>by rw[zAN (zAy q hn)];exact q
theorem Un.write (mu:Mut (H x))(he:e=x\/H e=some (.own x))(k:∀ b u,b≠e->h.get? b=some u->h'.get? b=some u)(heo:∃ u,h'.get? e=some u):Un fs ex H (upd H x o) h h':=by
 have hx:∀ b,H b=none->b≠x:=λb n z=>by subst z;rw[n] at mu;exact mu
 have hb:∀ b,H b=none->b≠e:=λb n z=>by
  grind
 have hm:∀ b u,H b=some u->¬ Mut (some u)->b≠x:=λb u q nm z=>by subst z;rw[q] at mu;exact nm mu
 refine⟨λb u q n _ _=>k b u (hb b n) q,λb u q n _ _=>⟨u.slots,k b u (hb b n) q⟩,λb u q n _=>by rw[zAN (hx b n)];exact n,λb u q _=>?_,
  λb xs q=>by rw[zAN (hm b _ q λz=>z)];exact q,λb u xs q=>by rw[zAN (hm b _ q λz=>z)];exact q,λb ps q=>by rw[zAN (hm b _ q λz=>z)];exact q⟩
 grind
theorem Un.mono (u:Un fs ex H H1 h h1)(hs:∀ b∈fs,b∈fs')(hx:∀ b∈ex,b∈ex'):Un fs' ex' H H1 h h1 :=
 ⟨λb ob q n hb he=>u.keep b ob q n (λz=>hb (hs b z)) λz=>he (hx b z),λ_ _ q n _ he=>u.any q n λz=>he (hx _ z),λb ob q n he=>u.free b ob q n λz=>he (hx b z),λb ob q he=>u.there b ob q λz=>he (hx b z),u.tups,u.frzs,u.tbls⟩
end
noncomputable def trk (h:Heap)(H:Hp):List Addr:=(List.range h.objs.size).filter λa=>(H a).isSome
noncomputable def hidT (h:Heap)(H:Hp):Heap:=W.hideAll h (trk h H)
theorem zJu (h:Heap)(H:Hp):(hidT h H).objs.size=h.objs.size:=W.hideAll_size _ _
theorem zLq (e:h.get? b=some o)(n:H b=none):(hidT h H).get? b=some o :=
 W.hideAll_get _ e λhm=>by
  have q:=(mem_filter.mp hm).2;grind
theorem zOG (e:(hidT h H).get? b=some o):h.get? b=some o/\H b=none:=by
 have e':=W.of_hideAll _ e
 simp_all
 cases q:H b with
 | none=>rfl
 | some x =>
  have z:(hidT h H).get? b=none:=W.hideAll_none _ (mem_filter.mpr ⟨mem_range.mpr (lt_size e'),by simp[q]⟩);grind
end L2
namespace L2
open PySem Spec PyProof.Rows
noncomputable def zCB:List Str:=["thinned_covers","Fill.films","Join.films","Group.films"]
noncomputable def lamQ (x:Str):Str:=x ++ ".<locals>." ++ "<lambda>"
noncomputable def zOM:List (Str×Str×Str):=[("Fill.films","Fill","films"),("Join.films","Join","films"),("Group.films","Group","films")]
noncomputable def zPq (K:W.Frag)(f:Addr):Option (Addr×Addr):=match K.lookup f with
 | some ⟨_,_,.func fd,_⟩=>(match fd.code with
  | .ref c=>(match K.lookup c with
   | some ⟨_,_,.fields vs,_⟩=>(match (vs[11]?:Option Value) with
    | some (.ref P)=>some (c,P)
    | _=>none)
   | _=>none)
  | _=>none)
 | _=>none
noncomputable def zG3 (K:W.Frag)(x:Str):Option Addr:=match zOM.lookup x with
 | some (c,m)=>(match W.nsIn K mainGlobals c with
  | some (some (.ref C))=>(match W.findIn K (.ref C) m with
   | some (some (.ref f))=>some f
   | _=>none)
  | _=>none)
 | none=>(match W.nsIn K mainGlobals x with
  | some (some (.ref f))=>some f
  | _=>none)
noncomputable def tabQ (K:W.Frag)(x:Str):Option (Addr×Addr):=(zG3 K x).bind (zPq K)
theorem zIr {K:W.Frag}(ht:tabQ K x=some (c,P))(hf:zG3 K x=some f)(hl:K.lookup f=some ⟨oc,od,.func fd,sl⟩):fd.code=.ref c:=by
 unfold tabQ at ht
 simp_all
 unfold zPq at ht;rw[hl] at ht;dsimp only at ht;split at ht
 .rename_i c2 hc;split at ht
  .split at ht
   .grind
   .cases ht
  .cases ht
 .cases ht
structure Mod (K:W.Frag)(mg:Str->Option Value)(base:Heap):Prop where
 kin:K.In base
 glob:base.Ns mainGlobals mg
 blt:∃ mb,base.Ns builtinsNs mb/\∀ x:Str,x ≠ "__name__"->mb x=bootBuiltins x
 nolimit:base.NoLimit
 seer:base.NoSeer
 bm:∃ bm ob,mg "__builtins__"=some (.ref bm)/\bm≠builtinsNs/\base.get? bm=some ob/\ob.cls=.type "module"/\ob.dict=some builtinsNs/\ob.data=.plain
 codes:∀ x∈zCB,∀ c P,tabQ K x=some (c,P)->W.CodeHd base c P
def zH8 (K:W.Frag)(H:Hp):Prop:=∀ x∈zCB,∀ c P,tabQ K x=some (c,P)->H P=some (.tbl (lamQ x))
structure Cx where
 prog:Program
 w:World
 K:W.Frag
 mg:Str->Option Value
 base:Heap
 A:Around
 N:List Str
 s0:Shared
 Y7:Hp
 env:Env
 outer:List Env
 stack:List Env
 ex:List Addr
 fn:Str->Bool
 calm:Bool
 pn:List (Addr×Obj)
 xe:Value->Shared->Prop
noncomputable def frs (l:List Env):List Addr:=l.filterMap (·.frame)
abbrev Cx.fs (X:Cx):List Addr:=frs X.outer
def Vis (sc:Scope)(x:Str):Prop:=sc.names.lookup x=some .local\/sc.names.lookup x=some .cell\/sc.names.lookup x=some .free
def Loc (sc:Scope)(x:Str):Prop:=sc.names.lookup x=some .local\/sc.names.lookup x=some .cell
def Look (env:Env)(h:Heap)(m:Str->Option Value)(x:Str)(u:Value):Prop :=
 (env.kindOf x=some .local/\m x=some u)\/((env.kindOf x=some .cell\/env.kindOf x=some .free)/\∃ c,env.cells.lookup x=some c/\h.IsCell c (some u))
structure Cx.Ok (X:Cx):Prop where
 mod:Mod X.K X.mg X.base
 kind:X.env.scope.kind=.function
 glob:X.env.globals=mainGlobals
 blt:X.env.builtins=builtinsNs
 above:X.s0.heap.objs.size<=X.env.locals
 inj:∀ x y c,X.env.cells.lookup x=some c->X.env.cells.lookup y=some c->x=y
 has:∀ x,(X.env.kindOf x=some .cell\/X.env.kindOf x=some .free)->∃ c,X.env.cells.lookup x=some c
 cab:∀ x c,X.fn x=true->X.env.cells.lookup x=some c->X.s0.heap.objs.size<=c
 hd:X.calm=true->X.A.handled=none
 frames:X.A.frames=some X.stack
 stk:X.stack=X.outer\/(X.stack=X.env::X.outer/\X.env.frame=some X.env.locals)
 exf:∀ b∈X.ex,b≠X.env.locals/\∀ x c,X.env.cells.lookup x=some c->c≠b
 bs:∀ b o,X.base.get? b=some o->X.s0.heap.get? b=some o/\X.Y7 b=none
 bsz:X.base.objs.size<=X.s0.heap.objs.size
 noex:∀ b o,X.base.get? b=some o->b∉X.ex
 exfs:∀ b∈X.ex,b∉X.fs
 funs:X.s0.heap.FunFrames X.base X.outer
 frf:∀ b∈X.fs,X.Y7 b=none
 pyl:X.A.depth+Builtin.pylongFrames < recursionLimit/\(model X.prog X.w).prog.given.tree=none/\∃ e l,X.stack=e::l/\e.scope.isGenerator=false/\e.scope.isCoroutine=false/\e.builtins=builtinsNs/\e.globals=mainGlobals
 tabs:zH8 X.K X.Y7
structure Inv (X:Cx)(pins:List (Addr×Obj))(B:List (Option V))(H:Hp)(s:Shared):Prop where
 ok:X.Ok
 os:s.os=X.s0.os
 bare:AllBare s.gens
 base:Un X.fs X.ex X.Y7 H X.s0.heap s.heap
 loc:∃ m,s.heap.Ns X.env.locals m/\∀ (i:Nat) (x:Str) (v:V),X.N[i]?=some x->B[i]?=some (some v)->Vis X.env.scope x->∃ u,RelV v u/\Look X.env s.heap m x u
 cell:∀ x c,X.env.cells.lookup x=some c->∃ v,s.heap.IsCell c v
 free:H X.env.locals=none
 freeC:∀ x c,X.env.cells.lookup x=some c->H c=none
 pin:∀ p∈X.pn++pins,s.heap.get? p.1=some p.2/\H p.1=none/\p.1≠X.env.locals/\p.1∉X.fs/\∀ v,p.2.data≠.cell v
 hok:HOk X.prog X.w H s.heap
 len:B.length=X.N.length
section
variable {X:Cx}{pins:List (Addr×Obj)}{B:List (Option V)}{H H':Hp}{s:Shared}{h':Heap}
theorem Cx.Ok.nofr (ok:X.Ok)(e:X.base.get? b=some o):b∉X.fs:=λhb=>by
 have:=(ok.funs.mem hb).1;grind
theorem Inv.bs (I:Inv X pins B H s):∀ b o,X.base.get? b=some o->s.heap.get? b=some o/\H b=none:=λb o e =>
 ⟨I.base.keep b o (I.ok.bs b o e).1 (I.ok.bs b o e).2 (I.ok.nofr e) (I.ok.noex b o e),I.base.free b o (I.ok.bs b o e).1 (I.ok.bs b o e).2 (I.ok.noex b o e)⟩
theorem Inv.bk (I:Inv X pins B H s):∀ b o,X.base.get? b=some o->s.heap.get? b=some o:=λb o e=>(I.bs b o e).1
theorem Inv.mod (I:Inv X pins B H s):Mod X.K X.mg X.base:=I.ok.mod
theorem Inv.kIn (I:Inv X pins B H s):X.K.In s.heap:=I.ok.mod.kin.keeps I.bk
theorem Inv.nolimit (I:Inv X pins B H s):s.heap.NoLimit:=I.ok.mod.nolimit.keeps I.bk
theorem Inv.lt (I:Inv X pins B H s):X.env.locals < s.heap.objs.size:=let ⟨_,hn,_⟩:=I.loc;hn.lt
theorem Inv.sz (I:Inv X pins B H s):X.s0.heap.objs.size<=s.heap.objs.size:=le_trans I.ok.above (Nat.le_of_lt I.lt)
theorem Inv.nofs (I:Inv X pins B H s){a:Addr}(h:s.heap.objs.size<=a):a∉X.fs:=λhb=>by
 obtain⟨_,o,ho,_⟩:=I.ok.funs.mem hb;exact absurd (xQ (lt_size ho) (le_trans I.sz h)) (lt_irrefl _)
theorem Inv.cne (I:Inv X pins B H s):∀ x c,X.env.cells.lookup x=some c->c≠X.env.locals:=λx c e z=>by
 obtain⟨v,o,ho,hd⟩:=I.cell x c e;obtain⟨m,⟨o',es,ep,ho',hd',_⟩,_⟩:=I.loc;grind
theorem Inv.funs (I:Inv X pins B H s):s.heap.FunFrames X.base X.outer:=by
 have all:∀ (l:List Env),(∀ b∈frs l,b∈X.fs)->X.s0.heap.FunFrames X.base l->s.heap.FunFrames X.base l:=by
  intro l
  induction l with
  | nil=>intro _ _;trivial
  | cons env r ih =>
   intro hs hl;obtain⟨hk,⟨L,o,hf,hn,ho,hd⟩,hr⟩:=hl;have hL:L∈X.fs:=hs L (by unfold frs;rw[List.filterMap_cons,hf];exact q8);obtain⟨sl,e⟩:=I.base.slot L o ho (I.ok.frf L hL) hL λz=>I.ok.exfs L z hL
   exact⟨hk,⟨L,_,hf,hn,e,hd⟩,ih (λb hb=>hs b (by unfold frs;rw[List.filterMap_cons,hf];exact qY _ hb)) hr⟩
 exact all X.outer (λ_ hb=>hb) I.ok.funs
theorem Inv.stack (I:Inv X pins B H s):s.heap.FunFrames X.base X.stack:=by
 rcases I.ok.stk with e | ⟨e,hf⟩
 .rw [e];exact I.funs
 .rw [e];obtain⟨m,hn,_⟩:=I.loc;refine .cons (by rw[I.ok.kind];decide) hf hn ?_ I.funs;exact Heap.get?_none_of_le (le_trans I.ok.bsz I.ok.above)
theorem Inv.stkSub (I:Inv X pins B H s):∀ b∈frs X.stack,b∈X.env.locals::X.fs:=λb hb=>by
 rcases I.ok.stk with e | ⟨e,hf⟩
 .simp_all
 .rw [e] at hb;unfold frs at hb;rw[List.filterMap_cons,hf] at hb;exact hb
theorem Inv.stkFree (I:Inv X pins B H s):∀ b∈frs X.stack,H b=none:=λb hb=>by
 rcases mem_cons.mp (I.stkSub b hb) with e | hb
 .rw [e];exact I.free
 .obtain ⟨_,o,ho,_⟩:=I.ok.funs.mem hb;exact I.base.free b o ho (I.ok.frf b hb) λz=>I.ok.exfs b z hb
theorem Inv.step {ch:List Addr}(I:Inv X pins B H s)
  (hch:∀ b∈ch,(b∈X.ex\/X.s0.heap.objs.size<=b)/\b≠X.env.locals/\(∀ x c,X.env.cells.lookup x=some c->c≠b)/\∀ p∈X.pn++pins,p.1≠b)
  (keep:∀ b o,b≠X.env.locals->b∉X.fs->b∉ch->s.heap.get? b=some o->H b=none->h'.get? b=some o)
  (slot:∀ b o,b≠X.env.locals->b∈X.fs->b∉ch->s.heap.get? b=some o->H b=none->∃ sl,h'.get? b=some { o with slots:=sl }) (free:∀ b o,b∉ch->s.heap.get? b=some o->H b=none->H' b=none)
  (there:∀ b o,b∉ch->s.heap.get? b=some o->∃ o',h'.get? b=some o')
  (tups:∀ b xs,H b=some (.tup xs)->H' b=some (.tup xs)) (frzs:∀ b o u,H b=some (.frz o u)->H' b=some (.frz o u)) (tbls:∀ b q,H b=some (.tbl q)->H' b=some (.tbl q))
  (ns:∀ m,s.heap.Ns X.env.locals m->h'.Ns X.env.locals m) (hok:HOk X.prog X.w H' h') (hg:AllBare g') :
  Inv X pins B H' { s with heap:=h',gens:=g',drawn:=d',toks:=t' }:=by
 have neL:∀ b o,X.s0.heap.get? b=some o->b≠X.env.locals:=λb o e=>ne_of_lt (xQ (lt_size e) I.ok.above)
 have neC:∀ b o,X.s0.heap.get? b=some o->b∉X.ex->b∉ch:=λb o e hx hb=>by
  rcases(hch b hb).1 with z | z
  .exact hx z
  .exact absurd (xQ (lt_size e) z) (lt_irrefl _)
 have cellK:∀ x c,X.env.cells.lookup x=some c->∀ v,s.heap.IsCell c v->h'.IsCell c v:=λx c e v zz0=>by
  obtain⟨o,ho,hd⟩:=zz0;have nch:c∉ch:=λz=>(hch c z).2.2.1 x c e rfl
  by_cases hc:c∈X.fs
  .obtain ⟨sl,q⟩:=slot c o (I.cne x c e) hc nch ho (I.freeC x c e);exact⟨_,q,hd⟩
  .exact ⟨o,keep c o (I.cne x c e) hc nch ho (I.freeC x c e),hd⟩
 refine⟨I.ok,I.os,hg,⟨λb o e n hb hx=>?_,λb o e n hb hx=>?_,λb o e n hx=>?_,λb o e hx=>?_,λb xs e=>tups b xs (I.base.tups b xs e),λb o xs e=>frzs b o xs (I.base.frzs b o xs e),λb ps e=>?_⟩,?_,λx c e=>?_,?_,λx c e=>?_,λp hp=>?_,hok,I.len⟩
 .exact keep b o (neL b o e) hb (neC b o e hx) (I.base.keep b o e n hb hx) (I.base.free b o e n hx)
 .obtain ⟨sl,e1⟩:=I.base.slot b o e n hb hx;obtain⟨sl',e2⟩:=slot b _ (neL b o e) hb (neC b o e hx) e1 (I.base.free b o e n hx);exact⟨sl',e2⟩
 .obtain ⟨o',e1⟩:=I.base.there b o e hx;exact free b o' (neC b o e hx) e1 (I.base.free b o e n hx)
 .obtain ⟨o',e1⟩:=I.base.there b o e hx;exact there b o' (neC b o e hx) e1
 .exact tbls b _ (I.base.tbls b ps e)
 .obtain ⟨m,hn,hl⟩:=I.loc;refine⟨m,ns m hn,λi x v e1 e2 e3=>?_⟩;obtain⟨u,r,l⟩:=hl i x v e1 e2 e3;refine⟨u,r,?_⟩;rcases l with l | ⟨k,c,e,z⟩
  .exact .inl l
  .exact .inr ⟨k,c,e,cellK x c e _ z⟩
 .obtain ⟨v,z⟩:=I.cell x c e;exact⟨v,cellK x c e v z⟩
 .obtain ⟨m,⟨o,_,_,ho,_⟩,_⟩:=I.loc;exact free _ o (λz=>(hch _ z).2.1 rfl) ho I.free
 .obtain ⟨v,o,ho,hd⟩:=I.cell x c e;exact free c o (λz=>(hch c z).2.2.1 x c e rfl) ho (I.freeC x c e)
 .obtain ⟨e,n,ne,nf,d⟩:=I.pin p hp;have nch:p.1∉ch:=λz=>(hch p.1 z).2.2.2 p hp rfl
  exact⟨keep p.1 p.2 ne nf nch e n,free p.1 p.2 nch e n,ne,nf,d⟩
theorem Inv.un (I:Inv X pins B H s)(u:Un X.fs [] H H' s.heap h')(hok:HOk X.prog X.w H' h'):Inv X pins B H' { s with heap:=h',toks:=t' }:=by
 obtain⟨m,⟨o,es,ep,ho,r⟩,_⟩:=id I.loc;obtain⟨sl,hL⟩:=u.any ho I.free (by simp);exact I.step (ch:=[]) (λ_ z=>nomatch z) (λb o _ hb _ e n=>u.keep b o e n hb (by simp)) (λb o _ hb _ e n=>u.slot b o e n hb (by simp)) (λb o _ e n=>u.free b o e n (by simp)) (λb o _ e=>u.there b o e (by simp)) u.tups u.frzs u.tbls (λm' hm=>by
  obtain⟨o',es',ep',ho',r'⟩:=hm;rw[ho] at ho';cases ho';exact⟨_,es',ep',hL,r'⟩) hok I.bare
theorem Inv.call (I:Inv X pins B H s)(u:Un (frs X.stack) ch H H' s.heap h')(hok:HOk X.prog X.w H' h')(hg:AllBare g')
  (hch:∀ b∈ch,(b∈X.ex\/X.s0.heap.objs.size<=b)/\b≠X.env.locals/\(∀ x c,X.env.cells.lookup x=some c->c≠b)/\∀ p∈X.pn++pins,p.1≠b) :
  Inv X pins B H' { s with heap:=h',gens:=g',drawn:=d',toks:=t' }:=by
 obtain⟨m,⟨o,es,ep,ho,r⟩,_⟩:=id I.loc;obtain⟨sl,hL⟩:=u.any ho I.free λz=>(hch _ z).2.1 rfl
 exact I.step hch (λb o hL hb hc e n=>u.keep b o e n (λz=>(mem_cons.mp (I.stkSub b z)).elim hL hb) hc) (λb o _ _ hc e n=>u.any e n hc) (λb o hc e n=>u.free b o e n hc) (λb o hc e=>u.there b o e hc) u.tups u.frzs u.tbls (λm' hm=>by
  obtain⟨o',es',ep',ho',r'⟩:=hm;rw[ho] at ho';cases ho';exact⟨_,es',ep',hL,r'⟩) hok hg
theorem Inv.turned (I:Inv X pins B H s)(k:∀ b o,b≠it->s.heap.get? b=some o->h'.get? b=some o)(hn:H it=none)(hL:it≠X.env.locals)
  (h1:it∈X.ex\/X.s0.heap.objs.size<=it) (h2:∀ x c,X.env.cells.lookup x=some c->c≠it) (h3:∀ p∈X.pn++pins,p.1≠it):Inv X pins B H { s with heap:=h',toks:=t' }:=by
 refine I.step (ch:=[it]) (λb hb=>?_) (λb o _ _ hc e _=>k b o (λz=>hc (by grind)) e) (λb o _ _ hc e _=>⟨o.slots,k b o (λz=>hc (by simp[z])) e⟩) (λ_ _ _ _ n=>n)
  (λb o hc e=>⟨o,k b o (λz=>hc (by simp[z])) e⟩) (λ_ _ e=>e) (λ_ _ _ e=>e) (λ_ _ e=>e) (λm hm=>?_) (λb u e=>?_) I.bare
 .have e:b=it:=by simpa using hb
  subst e;exact⟨h1,hL,h2,h3⟩
 .obtain ⟨o,es,ep,ho,r⟩:=hm;exact⟨o,es,ep,k _ o (Ne.symm hL) ho,r⟩
 .refine (I.hok b u e).stay (λc v hc q=>k c v ?_ q) (λ_ q=>q) (λ_ _ q=>q) λ_ _ _ q _=>q
  grind
theorem Inv.tabs (I:Inv X pins B H s):zH8 X.K H:=λx hx c P e=>I.base.tbls _ _ (I.ok.tabs x hx c P e)
theorem Inv.tok (I:Inv X pins B H s)(t:Nat):Inv X pins B H { s with toks:=t }:=I.un Un.refl I.hok
theorem Inv.kept (I:Inv X pins B H s)(k:∀ b u,s.heap.get? b=some u->h'.get? b=some u):Inv X pins B H { s with heap:=h',toks:=t' }:=I.un (Un.kept k) (I.hok.kept k)
theorem Inv.laid {a:Addr}{o:HO}{t':Nat}(I:Inv X pins B H s)(k:∀ b u,s.heap.get? b=some u->h'.get? b=some u)(hp:s.heap.objs.size<=a)(new:zBz X.prog X.w (upd H a o) h' a o) :
  Inv X pins B (upd H a o) { s with heap:=h',toks:=t' }:=I.un (Un.laid k hp (I.hok.fresh hp)) (I.hok.laid k hp new)
theorem Inv.write (I:Inv X pins B H s)(mu:Mut (H x))(he:e=x\/H e=some (.own x))(k:∀ b u,b≠e->s.heap.get? b=some u->h'.get? b=some u)(heo:∃ u,h'.get? e=some u)
  (new:zBz X.prog X.w (upd H x o) h' x o):Inv X pins B (upd H x o) { s with heap:=h',toks:=t' }:=I.un (Un.write mu he k heo) (I.hok.write mu he k heo new)
theorem Inv.pins_of (I:Inv X pins B H s)(h:∀ p∈pins',s.heap.get? p.1=some p.2/\H p.1=none/\p.1≠X.env.locals/\p.1∉X.fs/\∀ v,p.2.data≠.cell v):Inv X pins' B H s :=
 ⟨I.ok,I.os,I.bare,I.base,I.loc,I.cell,I.free,I.freeC,λp hp=>(mem_append.mp hp).elim (λz=>I.pin p (List.mem_append_left _ z)) (h p),I.hok,I.len⟩
theorem zHc {N:List Str}(hN:N.Nodup){j:Nat}{x:Str}(a:N[i]?=some x)(b:N[j]?=some x):i=j:=by
 obtain⟨h1,e1⟩:=zzg a;obtain⟨h2,e2⟩:=zzg b;exact(List.getElem_inj hN).mp (e1.trans e2.symm)
theorem zIu (I:Inv X pins B H s)(hN:X.N.Nodup)(hi:X.N[i]?=some x)(hx:Loc X.env.scope x)(r:RelV v u)
  (h:∀ s',Inv X pins (B.set i (some v)) H s'->(∃ a,Heap.SameBut a s.heap s'.heap/\(a=X.env.locals\/X.env.cells.lookup x=some a))->Q () s') (hf:X.fn x=true\/X.env.scope.names.lookup x=some .local:=by first | exact .inl rfl | exact .inr rfl | assumption):wpAny M A (storeName X.env x u) Q E s:=by
 obtain⟨m,hn,hl⟩:=id I.loc;have hcls:(X.env.scope.kind==.class||(X.env.scope.kind==.module&&X.env.locals != X.env.globals))=false:=by rw[I.ok.kind];rfl
 have hiB:i < B.length:=by rw[I.len];exact(zzg hi).1
 have cne:=I.cne;have tracked:∀ {a:Addr} {h':Heap},(∃ o,s.heap.get? a=some o/\H a=none)->Heap.SameBut a s.heap h'->HOk X.prog X.w H h':=λ{a h'} ha hs b ob e=>by
  obtain⟨_,_,hfree⟩:=ha;refine(I.hok b ob e).stay (λc w' hc q=>(hs.2 c ?_).trans q) (λ_ q=>q) (λ_ _ q=>q) λ_ _ _ q _=>q
  rintro rfl;rcases hc with rfl | hc
  .rw [hfree] at e;cases e
  .rw [hfree] at hc;cases hc
 rcases hx with hk | hk
 .refine wpAny_storeName_local hk hn (λh' hn' hs=>?_) hcls;obtain⟨oL,_,_,hoL,_⟩:=id hn;refine h _ ⟨I.ok,I.os,I.bare,⟨λb o e n hb hx=>?_,λb o e n hb hx=>?_,I.base.free,λb o e hx=>?_,I.base.tups,I.base.frzs,I.base.tbls⟩,⟨_,hn',λj y v' e1 e2 e3=>?_⟩,λy c e=>?_,I.free,I.freeC,λp hp=>?_,tracked ⟨oL,hoL,I.free⟩ hs,by simpa using I.len⟩ ⟨_,hs,.inl rfl⟩
  .exact (hs.2 b (ne_of_lt (xQ (lt_size e) I.ok.above))).trans (I.base.keep b o e n hb hx)
  .obtain ⟨sl,e1⟩:=I.base.slot b o e n hb hx;exact⟨sl,(hs.2 b (ne_of_lt (xQ (lt_size e) I.ok.above))).trans e1⟩
  .obtain ⟨o',e1⟩:=I.base.there b o e hx;exact⟨o',(hs.2 b (ne_of_lt (xQ (lt_size e) I.ok.above))).trans e1⟩
  .by_cases hj:j=i
   .subst hj;rw[hi] at e1;cases e1;rw[getElem?_set_self hiB] at e2;cases e2;exact⟨u,r,.inl ⟨hk,by simp⟩⟩
   .rw [getElem?_set_ne (Ne.symm hj)] at e2;obtain⟨u',r',q⟩:=hl j y v' e1 e2 e3;refine⟨u',r',?_⟩;rcases q with ⟨k,e⟩ | ⟨k,c,e,z⟩
    .refine .inl ⟨k,?_⟩;have:y≠x:=λe=>hj (zHc hN e1 (e▸hi))
     simp[this,e]
    .exact .inr ⟨k,c,e,z.sameBut hs (cne y c e)⟩
  .obtain ⟨w',z⟩:=I.cell y c e;exact⟨w',z.sameBut hs (cne y c e)⟩
  .obtain ⟨e,n,ne,nf,d⟩:=I.pin p hp;exact⟨(hs.2 p.1 ne).trans e,n,ne,nf,d⟩
 .have hfn:X.fn x=true:=by
   rcases hf with z | z
   .exact z
   .rw [z] at hk;cases hk
  obtain⟨c,hc⟩:=I.ok.has x (.inl hk);obtain⟨w',z⟩:=I.cell x c hc;refine wpAny_storeName_cell I.ok.kind hk hc z (λh' hc' hs=>?_);obtain⟨oc,hoc,hocd⟩:=id z;refine h { s with heap:=h' } ⟨I.ok,I.os,I.bare,⟨λb o e n hb hx=>?_,λb o e n hb hx=>?_,I.base.free,λb o e hx=>?_,I.base.tups,I.base.frzs,I.base.tbls⟩,⟨m,hn.sameBut hs (Ne.symm (cne x c hc)),λj y v' e1 e2 e3=>?_⟩,λy c' e=>?_,I.free,I.freeC,λp hp=>?_,tracked ⟨oc,hoc,I.freeC x c hc⟩ hs,by simpa using I.len⟩ ⟨c,hs,.inr hc⟩
  .exact (hs.2 b (ne_of_lt (xQ (lt_size e) (I.ok.cab x c hfn hc)))).trans (I.base.keep b o e n hb hx)
  .obtain ⟨sl,e1⟩:=I.base.slot b o e n hb hx;exact⟨sl,(hs.2 b (ne_of_lt (xQ (lt_size e) (I.ok.cab x c hfn hc)))).trans e1⟩
  .obtain ⟨o',e1⟩:=I.base.there b o e hx;exact⟨o',(hs.2 b (ne_of_lt (xQ (lt_size e) (I.ok.cab x c hfn hc)))).trans e1⟩
  .by_cases hj:j=i
   .subst hj;rw[hi] at e1;cases e1;rw[getElem?_set_self hiB] at e2;cases e2;exact⟨u,r,.inr ⟨.inl hk,c,hc,hc'⟩⟩
   .rw [getElem?_set_ne (Ne.symm hj)] at e2;obtain⟨u',r',q⟩:=hl j y v' e1 e2 e3;refine⟨u',r',?_⟩;rcases q with q | ⟨k,c',e,z'⟩
    .exact .inl q
    .refine .inr ⟨k,c',e,z'.sameBut hs ?_⟩;rintro rfl;exact hj (zHc hN e1 (I.ok.inj _ _ _ e hc▸hi))
  .by_cases hcc:c'=c
   .subst hcc;exact⟨_,hc'⟩
   .obtain ⟨w2,z2⟩:=I.cell y c' e;exact⟨w2,z2.sameBut hs hcc⟩
  .obtain ⟨e,n,ne,nf,d⟩:=I.pin p hp;refine⟨(hs.2 p.1 ?_).trans e,n,ne,nf,d⟩;intro q;rw[q,hoc] at e;have q':oc=p.2:=xj e;exact d w' (by rw[<- q'];exact hocd)
theorem zFC (I:Inv X pins B H s)(hN:X.N.Nodup)(hi:X.N[i]?=some x)(hx:Loc X.env.scope x)(r:RelV v u)
  (h:∀ s',Inv X pins (B.set i (some v)) H s'->Q () s') (hf:X.fn x=true\/X.env.scope.names.lookup x=some .local:=by first | exact .inl rfl | exact .inr rfl | assumption):wpAny M A (storeName X.env x u) Q E s :=
 zIu I hN hi hx r (λs' I' _=>h s' I') hf
theorem Inv.call' (I:Inv X pins B H s)(ho:s'.os=s.os)(u:Un (frs X.stack) ch H H' s.heap s'.heap)(hok:HOk X.prog X.w H' s'.heap)(hg:AllBare s'.gens)
  (hch:∀ b∈ch,(b∈X.ex\/X.s0.heap.objs.size<=b)/\b≠X.env.locals/\(∀ x c,X.env.cells.lookup x=some c->c≠b)/\∀ p∈X.pn++pins,p.1≠b):Inv X pins B H' s':=by
 obtain⟨h',g',d',t',o'⟩:=s';subst ho;exact I.call u hok hg hch
end
abbrev XK:=Value->Option Addr->Hp->Prop
abbrev St:=List (Option V)
abbrev VK:=V->Hp->Prop
abbrev TE:=St->Hp->VK->Prop
abbrev TT:=St->Hp->(Bool->Hp->Prop)->Prop
abbrev TA:=St->Hp->(List V->Hp->Prop)->Prop
structure Ends where
 nx:St->Hp->Prop
 rt:VK
 bk:St->Hp->Prop:=λ_ _=>False
 ct:St->Hp->Prop:=λ_ _=>False
abbrev TS:=Ends->St->Hp->Prop
def EP (X:Cx)(pins:List (Addr×Obj))(B:St)(Q:VK)(u:Value)(s':Shared):Prop:=∃ v H',Inv X pins B H' s'/\RelV v u/\Q v H'
def TP (X:Cx)(pins:List (Addr×Obj))(B:St)(Q:Bool->Hp->Prop)(b:Bool)(s':Shared):Prop:=∃ H',Inv X pins B H' s'/\Q b H'
def AP (X:Cx)(pins:List (Addr×Obj))(B:St)(Q:List V->Hp->Prop)(us:List Value)(s':Shared):Prop:=∃ vs H',Inv X pins B H' s'/\Vals vs us/\Q vs H'
def SP (X:Cx)(pins:List (Addr×Obj))(D:Ends)(f:Flow)(s':Shared):Prop :=
 match f with
 | .next=>∃ O1 H',Inv X pins O1 H' s'/\D.nx O1 H'
 | .brk=>∃ O1 H',Inv X pins O1 H' s'/\D.bk O1 H'
 | .cont=>∃ O1 H',Inv X pins O1 H' s'/\D.ct O1 H'
 | .ret u=>∃ v O1 H',Inv X pins O1 H' s'/\RelV v u/\D.rt v H'
def PE (X:Cx)(e:Expr)(t:TE):Prop :=
 ∀ (pins:List (Addr×Obj)) (s:Shared) (B:St) (H:Hp) (Q:VK),Inv X pins B H s->t B H Q->wpAny (model X.prog X.w) X.A (eval e X.env) (EP X pins B Q) X.xe s
def PT (X:Cx)(e:Expr)(t:TT):Prop :=
 ∀ (pins:List (Addr×Obj)) (s:Shared) (B:St) (H:Hp) (Q:Bool->Hp->Prop),Inv X pins B H s->t B H Q->wpAny (model X.prog X.w) X.A (isTrue e X.env (eval e X.env)) (TP X pins B Q) X.xe s
def PW (X:Cx)(e:Expr)(t:TT):Prop :=
 ∀ (whole:Sem Value) (pins:List (Addr×Obj)) (s:Shared) (B:St) (H:Hp) (Q:Bool->Hp->Prop),Inv X pins B H s->t B H Q->wpAny (model X.prog X.w) X.A (isTrue e X.env whole) (TP X pins B Q) X.xe s
theorem PW.pt (h:PW X e t):PT X e t:=h _
def PA (X:Cx)(es:List Expr)(t:TA):Prop :=
 ∀ (pos:Pos) (pins:List (Addr×Obj)) (s:Shared) (B:St) (H:Hp) (Q:List V->Hp->Prop),Inv X pins B H s->t B H Q->wpAny (model X.prog X.w) X.A (spliced (backTo pos (starEach es X.env))) (AP X pins B Q) X.xe s
def PS (X:Cx)(st:Stmt)(t:TS):Prop :=
 ∀ (pins:List (Addr×Obj)) (s:Shared) (B:St) (H:Hp) (D:Ends),Inv X pins B H s->t D B H->wpAny (model X.prog X.w) X.A (exec st X.env) (SP X pins D) X.xe s
def PSs (X:Cx)(st:List Stmt)(t:TS):Prop :=
 ∀ (pins:List (Addr×Obj)) (s:Shared) (B:St) (H:Hp) (D:Ends),Inv X pins B H s->t D B H->wpAny (model X.prog X.w) X.A (execs st X.env) (SP X pins D) X.xe s
theorem thn {U:Type}{t:Sem U}{Q Q':U->Shared->Prop}{M:Model}{A:Around}{E:Value->Shared->Prop}{s:Shared}(h:wpAny M A t Q E s)(hQ:∀ a s,Q a s->Q' a s):wpAny M A t Q' E s:=wpAny_mono h hQ λ_ _ x=>x
section
variable {X:Cx}
theorem bin {a b:Expr}{ta tb:TE}(ha:PE X a ta)(hb:PE X b tb){pins:List (Addr×Obj)}{s:Shared}{B:St}{H:Hp}{R:V->V->Hp->Prop}(I:Inv X pins B H s)(h:ta B H λx H1=>tb B H1 λy H2=>R x y H2)
  {U:Type} {Q:U->Shared->Prop} {f:Value->Value->Sem U}
  (hf:∀ v u s2 x y H2,Inv X pins B H2 s2->RelV x v->RelV y u->R x y H2->wpAny (model X.prog X.w) X.A (f v u) Q X.xe s2) :
  wpAny (model X.prog X.w) X.A (eval a X.env) (λv O3=>wpAny (model X.prog X.w) X.A (eval b X.env) (λu O9=>wpAny (model X.prog X.w) X.A (f v u) Q X.xe O9) X.xe O3) X.xe s:=by
 refine thn (ha pins s B H _ I h) λv s1 zz1=>?_
 obtain⟨x,H1,I1,r1,q1⟩:=zz1;refine thn (hb pins s1 B H1 _ I1 q1) λu s2 zz2=>?_
 obtain⟨y,H2,I2,r2,q2⟩:=zz2;exact hf v u s2 x y H2 I2 r1 r2 q2
def tVar (i:Nat):TE:=λB H Q=>∃ v,B[i]?=some (some v)/\Q v H
def tC (v:V):TE:=λ_ H Q=>Q v H
theorem zDb {i:Nat}{x:Str}{pos:Pos}(hN:X.N[i]?=some x)(hv:Vis X.env.scope x)(hd:(x==("__debug__":Str))=false:=by decide)(hcd:(x==("__classdict__":Str))=false:=by decide):PE X (.Name x pos) (tVar i):=by
 intro pins s B H Q I h;obtain⟨v,e,h⟩:=h;obtain⟨m,hn,hl⟩:=I.loc;obtain⟨u,r,l⟩:=hl i x v hN e hv;have fin:EP X pins B Q u s:=⟨v,H,I,r,h⟩;rcases l with ⟨hk,hm⟩ | ⟨hk,c,hc,hcell⟩
 .exact wpAny_Name (wpAny_loadName_local I.ok.kind hk hn hm fin) hd
 .rcases hk with hk | hk
  .exact wpAny_Name (wpAny_loadName_cell I.ok.kind hk hc hcell fin) hd
  .exact wpAny_Name (wpAny_loadName_free I.ok.kind hk hc hcell fin hcd) hd
theorem zQN {i j pos}:PE X (.Constant (.int i) j pos) (tC (.int i)):=λ_ _ _ H _ I h=>wpAny_Constant_int ⟨.int i,H,I.tok _,⟨_,rfl⟩,h⟩
theorem zSZ {b j pos}:PE X (.Constant (.bool b) j pos) (tC (.bl b)):=λ_ _ _ H _ I h=>Constant_bool ⟨.bl b,H,I,rfl,h⟩
theorem zQL {j pos}:PE X (.Constant .none j pos) (tC .non):=λ_ _ _ H _ I h=>Constant_none ⟨.non,H,I,rfl,h⟩
def Gl (X:Cx)(x:Str):Prop:=X.env.kindOf x=some .globalImplicit
theorem zD8 {E:Value->Shared->Prop}{pins:List (Addr×Obj)}{s:Shared}{B:St}{H:Hp}{x:Str}{u:Value}{pos:Pos}{Q:Value->Shared->Prop}(I:Inv X pins B H s)(hg:Gl X x)(hm:X.mg x=some u)(h:Q u s)
  (hd:(x==("__debug__":Str))=false:=by decide):wpAny (model X.prog X.w) X.A (eval (.Name x pos) X.env) Q E s :=
 Calls.Name_function_global I.ok.kind hg (Calls.loadGlobal_global (by rw[I.ok.glob];exact I.mod.glob.keeps I.bk) hm h) hd
theorem zC7 {E:Value->Shared->Prop}{pins:List (Addr×Obj)}{s:Shared}{B:St}{H:Hp}{x:Str}{u:Value}{pos:Pos}{Q:Value->Shared->Prop}(I:Inv X pins B H s)(hg:Gl X x)(hm:X.mg x=none)(hv:bootBuiltins x=some u)(h:Q u s)
  (hn:x ≠ "__name__":=by decide) (hd:(x==("__debug__":Str))=false:=by decide):wpAny (model X.prog X.w) X.A (eval (.Name x pos) X.env) Q E s:=by
 obtain⟨mb,h1,h2⟩:=I.mod.blt;exact Calls.Name_function_global I.ok.kind hg (Calls.loadGlobal_builtin (by rw[I.ok.glob];exact I.mod.glob.keeps I.bk) hm (by rw[I.ok.blt];exact h1.keeps I.bk) ((h2 x hn).trans hv) h) hd
theorem zN0 (hg:Gl X x)(hm:X.mg x=some u)(r:RelV v u)(hd:(x==("__debug__":Str))=false:=by decide):PE X (.Name x pos) (tC v) :=
 λ_ _ _ H _ I h=>zD8 I hg hm ⟨v,H,I,r,h⟩ hd
theorem zN2 {x:Str}{v:V}{u:Value}{pos:Pos}(hg:Gl X x)(hm:X.mg x=none)(hv:bootBuiltins x=some u)(r:RelV v u)(hn:x ≠ "__name__":=by decide)(hd:(x==("__debug__":Str))=false:=by decide):PE X (.Name x pos) (tC v) :=
 λ_ _ _ H _ I h=>zC7 I hg hm hv ⟨v,H,I,r,h⟩ hn hd
variable {a b:Expr}{ta tb:TE}{pos:Pos}
def tB (t:TE):TT:=λB H Q=>t B H λx H1=>∃ c,x=.bl c/\Q c H1
theorem zMw (h:PE X e t)(he:∀ whole,isTrue e X.env whole=(do let v<-whole;standAt e.pos;holding [v] (truthy v)):=by intro _;rfl):PT X e (tB t):=by
 intro pins s B H Q I hw;refine isTrue_plain (thn (h pins s B H _ I hw) λv s1 zz3=>?_) (he _);obtain⟨x,H1,I1,r1,q1⟩:=zz3;obtain⟨d,rfl,q⟩:=q1;cases r1;exact wpAny_truthy_bool ⟨H1,I1,q⟩
variable {tA tB':TT}{rest:List Expr}
def tAnd (t u:TT):TT:=λB H Q=>t B H λc H1=>if c=true then u B H1 Q else Q false H1
def tOr (t u:TT):TT:=λB H Q=>t B H λc H1=>if c=true then Q true H1 else u B H1 Q
def tNot (t:TT):TT:=λB H Q=>t B H λc H1=>Q (!c) H1
theorem zI7 (ha:PT X a tA):PW X (.BoolOp .And [a] pos) tA:=by
 intro wh pins s B H Q I h;refine isTrue_and (thn (ha pins s B H Q I h) λc s1 e=>?_);cases c with
 | true=>exact isTrue_and_nil e
 | false=>exact e
theorem zMu (ha:PT X a tA):PW X (.BoolOp .Or [a] pos) tA:=by
 intro wh pins s B H Q I h;refine isTrue_or (thn (ha pins s B H Q I h) λc s1 e=>?_);cases c with
 | false=>exact isTrue_or_nil e
 | true=>exact e
theorem zMv (ha:PT X a tA)(hb:PW X (.BoolOp .And (b::rest) pos) tB'):PW X (.BoolOp .And (a::b::rest) pos) (tAnd tA tB'):=by
 intro wh pins s B H Q I h;refine isTrue_and (thn (ha pins s B H _ I h) λc s1 zz4=>?_);obtain⟨H1,I1,q1⟩:=zz4;cases c with
 | true=>exact hb wh pins s1 B H1 Q I1 q1
 | false=>exact⟨H1,I1,q1⟩
theorem zQF (ha:PT X a tA)(hb:PW X (.BoolOp .Or (b::rest) pos) tB'):PW X (.BoolOp .Or (a::b::rest) pos) (tOr tA tB'):=by
 intro wh pins s B H Q I h;refine isTrue_or (thn (ha pins s B H _ I h) λc s1 zz5=>?_);obtain⟨H1,I1,q1⟩:=zz5;cases c with
 | true=>exact⟨H1,I1,q1⟩
 | false=>exact hb wh pins s1 B H1 Q I1 q1
theorem zMx (ha:PT X a tA):PT X (.UnaryOp .Not a pos) (tNot tA):=by
 intro pins s B H Q I h;exact isTrue_not (ha pins s B H _ I h)
def zSQ (ta tb:TE):TE:=λB H Q=>ta B H λx H1=>∃ c,x=.bl c/\if c=true then tb B H1 Q else Q (.bl false) H1
def tOrV (ta tb:TE):TE:=λB H Q=>ta B H λx H1=>∃ c,x=.bl c/\if c=true then Q (.bl true) H1 else tb B H1 Q
def zSM (ta:TE):TE:=λB H Q=>ta B H λx H1=>∃ c,x=.bl c/\Q (.bl (!c)) H1
theorem zQJ {op}(h:PE X a t):PE X (.BoolOp op [a] pos) t:=by assumption
theorem zQP (ha:PE X a ta)(hb:PE X (.BoolOp .And (b::rest) pos) tb):PE X (.BoolOp .And (a::b::rest) pos) (zSQ ta tb):=by
 intro pins s B H Q I h;refine BoolOp_and (thn (ha pins s B H _ I h) λv s1 zz6=>?_);obtain⟨x,H1,I1,r1,q1⟩:=zz6;obtain⟨c,rfl,q1⟩:=q1;cases r1;refine wpAny_truthy_bool ?_;cases c with
 | true=>exact hb pins s1 B H1 Q I1 q1
 | false=>exact⟨.bl false,H1,I1,rfl,q1⟩
theorem zSX (ha:PE X a ta)(hb:PE X (.BoolOp .Or (b::rest) pos) tb):PE X (.BoolOp .Or (a::b::rest) pos) (tOrV ta tb):=by
 intro pins s B H Q I h;refine BoolOp_or (thn (ha pins s B H _ I h) λv s1 zz7=>?_);obtain⟨x,H1,I1,r1,q1⟩:=zz7;obtain⟨c,rfl,q1⟩:=q1;cases r1;refine wpAny_truthy_bool ?_;cases c with
 | false=>exact hb pins s1 B H1 Q I1 q1
 | true=>exact⟨.bl true,H1,I1,rfl,q1⟩
theorem zQK (ha:PE X a ta):PE X (.UnaryOp .Not a pos) (zSM ta):=by
 intro pins s B H Q I h;refine UnaryOp_ (thn (ha pins s B H _ I h) λv s1 zz8=>?_);obtain⟨x,H1,I1,r1,q1⟩:=zz8;obtain⟨c,rfl,q1⟩:=q1;cases r1;exact not_of (wpAny_truthy_bool ⟨.bl _,H1,I1,rfl,q1⟩)
def tIf (t:TT)(ta tb:TE):TE:=λB H Q=>t B H λc H1=>if c=true then ta B H1 Q else tb B H1 Q
theorem zLN (hc:PT X c tA)(ha:PE X a ta)(hb:PE X b tb):PE X (.IfExp c a b pos) (tIf tA ta tb):=by
 intro pins s B H Q I h;refine wpAny_IfExp (thn (hc pins s B H _ I h) λd s1 zz9=>?_);obtain⟨H1,I1,q1⟩:=zz9;cases d with
 | true=>exact ha pins s1 B H1 Q I1 q1
 | false=>exact hb pins s1 B H1 Q I1 q1
end
def SqL (K:W.Frag)(H:Hp)(a:Addr)(xs:List V):Prop :=
 Rd H a (.lst xs) \/
  ∃ (o:Obj) (its:Array Value) (n:Nat),K.lookup a=some o/\o.cls=.type "list"/\o.dict=none/\o.data=.seq its n/\its.size<=sizeLine/\Vals xs its.toList
def SqT (K:W.Frag)(H:Hp)(a:Addr)(xs:List V):Prop :=
 Rd H a (.tup xs) \/
  ∃ (o:Obj) (its:Array Value) (n:Nat),K.lookup a=some o/\o.cls=.type "tuple"/\o.data=.seq its n/\its.size<=sizeLine/\Vals xs its.toList
noncomputable def absV:Value->Option V
 | .none=>some .non
 | .bool b=>some (.bl b)
 | .int i _=>some (.int i)
 | .str x _=>some (.str x)
 | .bytes b _=>some (.byt b)
 | .float b _=>some (.flt b)
 | .ref a=>some (.ref a)
 | .type n=>some (.ty n)
 | _=>none
theorem RelV.abs (r:RelV x u):absV u=some x:=by
 cases x with
 | non=>cases r;rfl
 | bl _=>cases r;rfl
 | int _=>obtain⟨t,rfl⟩:=r;rfl
 | str _=>obtain⟨t,rfl⟩:=r;rfl
 | byt _=>obtain⟨t,rfl⟩:=r;rfl
 | flt _=>obtain⟨t,rfl⟩:=r;rfl
 | ref _=>cases r;rfl
 | ty _=>cases r;rfl
theorem RelV.inj (r:RelV x u)(q:RelV y u):x=y:=xj (r.abs.symm.trans q.abs)
theorem Vals.inj:∀ {xs ys:List V} {us:List Value},Vals xs us->Vals ys us->xs=ys
 | _,_,_,.nil,.nil=>rfl
 | _,_,_,.cons r t,.cons r' t'=>by rw[r.inj r',Vals.inj t t']
section
variable {X:Cx}{pins:List (Addr×Obj)}{B:St}{H:Hp}{s:Shared}{a:Addr}{xs ys:List V}
theorem SqL.of {K:W.Frag}(h:H a=some (.lst xs)):SqL K H a xs:=.inl (.inl h)
theorem SqT.of {K:W.Frag}(h:H a=some (.tup xs)):SqT K H a xs:=.inl (.inl h)
theorem Inv.list (I:Inv X pins B H s)(h:SqL X.K H a xs):∃ its:List Value,Vals xs its/\PlainL s.heap a its.toArray/\xs.length<=sizeLine:=by
 rcases h with h | ⟨o,its,n,hk,hc,hd,hs,hz,r⟩
 .obtain ⟨z,its,n,r,e⟩:=h.ok I.hok;exact⟨its,r,⟨_,n,e,rfl,rfl,rfl⟩,z⟩
 .refine ⟨its.toList,r,⟨o,n,I.kIn a o hk,hc,hd,by simpa using hs⟩,?_⟩;have e:=r.length;grind
theorem Inv.tuple (I:Inv X pins B H s)(h:SqT X.K H a xs):∃ its:List Value,Vals xs its/\IsTup s.heap a its.toArray/\xs.length<=sizeLine:=by
 rcases h with h | ⟨o,its,n,hk,hc,hs,hz,r⟩
 .obtain ⟨z,its,r,p⟩:=h.ok I.hok;exact⟨its,r,p,z⟩
 .refine ⟨its.toList,r,⟨o,I.kIn a o hk,hc,n,by simpa using hs⟩,?_⟩;have e:=r.length;grind
theorem Inv.list_inj (I:Inv X pins B H s)(h:SqL X.K H a xs)(h':SqL X.K H a ys):xs=ys:=by
 obtain⟨its,r,⟨o,n,e,_,_,d⟩,_⟩:=I.list h;obtain⟨its',r',⟨o',n',e',_,_,d'⟩,_⟩:=I.list h'
 simp_all
 exact r.inj r'
theorem Inv.tuple_inj (I:Inv X pins B H s)(h:SqT X.K H a xs)(h':SqT X.K H a ys):xs=ys:=by
 obtain⟨its,r,⟨o,e,_,n,d⟩,_⟩:=I.tuple h;obtain⟨its',r',⟨o',e',_,n',d'⟩,_⟩:=I.tuple h'
 simp_all
 exact r.inj r'
end
abbrev Cx.wish (X:Cx) (E:Value->Shared->Prop):Cx:={ X with xe:=E }
abbrev Cx.nox (X:Cx):Cx:=X.wish λ_ _=>False
theorem Cx.Ok.wish {X:Cx}(ok:X.Ok)(E:Value->Shared->Prop):(X.wish E).Ok :=
 ⟨ok.mod,ok.kind,ok.glob,ok.blt,ok.above,ok.inj,ok.has,ok.cab,ok.hd,ok.frames,ok.stk,ok.exf,ok.bs,ok.bsz,ok.noex,ok.exfs,ok.funs,ok.frf,ok.pyl,ok.tabs⟩
theorem Cx.Ok.unwish {X:Cx}(ok:(X.wish E).Ok):X.Ok :=
 ⟨ok.mod,ok.kind,ok.glob,ok.blt,ok.above,ok.inj,ok.has,ok.cab,ok.hd,ok.frames,ok.stk,ok.exf,ok.bs,ok.bsz,ok.noex,ok.exfs,ok.funs,ok.frf,ok.pyl,ok.tabs⟩
section
variable {X:Cx}{pins:List (Addr×Obj)}{B:St}{H:Hp}{s:Shared}{E:Value->Shared->Prop}
theorem Inv.wish (I:Inv X pins B H s)(E:Value->Shared->Prop):Inv (X.wish E) pins B H s:=⟨I.ok.wish E,I.os,I.bare,I.base,I.loc,I.cell,I.free,I.freeC,I.pin,I.hok,I.len⟩
theorem Inv.unwish (I:Inv (X.wish E) pins B H s):Inv X pins B H s:=⟨I.ok.unwish,I.os,I.bare,I.base,I.loc,I.cell,I.free,I.freeC,I.pin,I.hok,I.len⟩
theorem SP.unwish (h:SP (X.wish E) pins D f s'):SP X pins D f s':=by
 cases f with
 | next=>obtain⟨O1,H',I,q⟩:=h;exact⟨O1,H',I.unwish,q⟩
 | brk=>obtain⟨O1,H',I,q⟩:=h;exact⟨O1,H',I.unwish,q⟩
 | cont=>obtain⟨O1,H',I,q⟩:=h;exact⟨O1,H',I.unwish,q⟩
 | ret u=>obtain⟨v,O1,H',I,r,q⟩:=h;exact⟨v,O1,H',I.unwish,r,q⟩
theorem PE.nox (h:PE X.nox e t):PE X e t:=λpins s B H Q I hw =>
 wpAny_mono (h pins s B H Q (I.wish _) hw) (λ_ _ zy143=>by obtain⟨v,H',I',r,q⟩:=zy143;exact⟨v,H',I'.unwish,r,q⟩) λ_ _ z=>False.elim z
theorem PSs.nox {st:List Stmt}(h:PSs X.nox st t):PSs X st t:=λpins s B H D I hw =>
 wpAny_mono (h pins s B H D (I.wish _) hw) (λ_ _ q=>q.unwish) λ_ _ z=>False.elim z
end
section
variable {X:Cx}{st:Stmt}{rest:List Stmt}{t u:TS}{e:Expr}{te:TE}{pos:Pos}
def zPv:TS:=λD B H=>D.nx B H
def tSeq (t u:TS):TS:=λD B H=>t { D with nx:=u D } B H
theorem zGj:PSs X [] zPv:=λ_ _ B H _ I h=>wpAny_execs_nil ⟨B,H,I,h⟩
theorem zFJ (h1:PS X st t)(h2:PSs X rest u):PSs X (st::rest) (tSeq t u):=by
 intro pins s B H D I h;refine wpAny_execs_cons (thn (h1 pins s B H { D with nx:=u D } I h) λf s1 q=>?_);cases f with
 | next =>
  obtain⟨O1,H',I',q⟩:=q;exact h2 pins s1 O1 H' D I' q
 | ret v=>exact q
 | brk=>exact q
 | cont=>exact q
theorem zNt:PS X (.Pass pos) zPv:=λ_ _ B H _ I h=>wpAny_Pass ⟨B,H,I,h⟩
theorem Inv.quiet {pins:List (Addr×Obj)}{B:St}{H:Hp}{s:Shared}(I:Inv X pins B H s):interactive X.env=false:=by simp[interactive,I.ok.kind]
def zSN (te:TE):TS:=λD B H=>te B H λ_ H1=>D.nx B H1
theorem zDA (he:PE X e te)(hs:swapsWith e none pos.line X.env=pure false:=by rfl):PS X (.Expr e pos) (zSN te):=by
 intro pins s B H D I h;exact wpAny_Expr_any (thn (he pins s B H _ I h) λv s1 zy144=>by obtain⟨x,H1,I1,r1,q1⟩:=zy144;exact⟨B,H1,I1,q1⟩) I.quiet hs
def tRet (te:TE):TS:=λD B H=>te B H D.rt
theorem zI8 (he:PE X e te):PS X (.Return (some e) pos) (tRet te):=by
 intro pins s B H D I h;exact wpAny_Return_some (thn (he pins s B H _ I h) λv s1 zy145=>by obtain⟨x,H1,I1,r1,q1⟩:=zy145;exact⟨x,B,H1,I1,r1,q1⟩)
def zSK:TS:=λD _ H=>D.rt .non H
theorem zNs:PS X (.Return none pos) zSK:=λ_ _ B H _ I h=>wpAny_Return_none ⟨.non,B,H,I,rfl,h⟩
def tIfS (c:TT)(t u:TS):TS:=λD B H=>c B H λb H1=>if b=true then t D B H1 else u D B H1
theorem zQG (hc:PT X c tc)(ha:PSs X a t)(hb:PSs X b u):PS X (.If c a b pos) (tIfS tc t u):=by
 intro pins s B H D I h;refine wpAny_If (thn (hc pins s B H _ I h) λd s1 zz10=>?_);obtain⟨H1,I1,q1⟩:=zz10;cases d with
 | true=>exact ha pins s1 B H1 D I1 q1
 | false=>exact hb pins s1 B H1 D I1 q1
def zPw:TS:=λ_ _ _=>False
theorem zFK:PS X st zPw:=λ_ _ _ _ _ _ h=>h.elim
end
abbrev TG:=V->St->Hp->(St->Hp->Prop)->Prop
def PG (X:Cx)(target:Expr)(t:TG):Prop :=
 ∀ (pins:List (Addr×Obj)) (s:Shared) (B:St) (H:Hp) (v:V) (u:Value) (Q:St->Hp->Prop),Inv X pins B H s->RelV v u->t v B H Q ->
  wpAny (model X.prog X.w) X.A (assign target X.env u) (λ_ s'=>∃ O1 H',Inv X pins O1 H' s'/\Q O1 H') X.xe s
abbrev TSet:=V->V->V->Hp->(Hp->Prop)->Prop
def PSet (X:Cx)(t:TSet):Prop :=
 ∀ (pins:List (Addr×Obj)) (s:Shared) (B:St) (H:Hp) (o i v:V) (ov iv u:Value) (Q:Hp->Prop),Inv X pins B H s->RelV o ov->RelV i iv->RelV v u->t o i v H Q ->
  wpAny (model X.prog X.w) X.A (setItem ov iv u) (λ_ s'=>∃ H',Inv X pins B H' s'/\Q H') X.xe s
abbrev TIp:=V->V->Hp->VK->Prop
def PIp (X:Cx)(op:Operator)(t:TIp):Prop :=
 ∀ (pins:List (Addr×Obj)) (s:Shared) (B:St) (H:Hp) (x y:V) (v u:Value) (Q:VK),Inv X pins B H s->RelV x v->RelV y u->t x y H Q ->
  wpAny (model X.prog X.w) X.A (inplaceOp op v u) (EP X pins B Q) X.xe s
section
variable {X:Cx}{pos:Pos}
def zRi (i:Nat):TG:=λv B H Q=>Q (B.set i (some v)) H
theorem zFN (hN:X.N.Nodup)(hi:X.N[i]?=some x)(hx:Loc X.env.scope x)(hf:X.fn x=true\/X.env.scope.names.lookup x=some .local:=by first | exact .inl rfl | exact .inr rfl | assumption):PG X (.Name x pos) (zRi i):=by
 intro pins s B H v u Q I r h;exact wpAny_assign_Name (zFC I hN hi hx r (λs' I'=>⟨_,H,I',h⟩) hf)
def tAsg (te:TE)(g:TG):TS:=λD B H=>te B H λx H1=>g x B H1 D.nx
theorem zMy (hN:X.N.Nodup)(hi:X.N[i]?=some x)(hx:Loc X.env.scope x)(he:PE X e te)(hs:swapsWith e (some (.Name x pos')) pos.line X.env=pure false:=by rfl)(hf:X.fn x=true\/X.env.scope.names.lookup x=some .local:=by first | exact .inl rfl | exact .inr rfl | assumption) :
  PS X (.Assign [.Name x pos'] e pos) (tAsg te (zRi i)):=by
 intro pins s B H D I h;refine wpAny_Assign_Name (thn (he pins s B H _ I h) λv s1 zz11=>?_) hs;obtain⟨y,H1,I1,r1,q1⟩:=zz11;exact zFC I1 hN hi hx r1 (λs2 I2=>⟨_,H1,I2,q1⟩) hf
def tAug (i:Nat)(te:TE)(ti:TIp):TS:=λD B H=>∃ x,B[i]?=some (some x)/\te B H λy H1=>ti x y H1 λz H2=>D.nx (B.set i (some z)) H2
theorem zQI (hN:X.N.Nodup)(hi:X.N[i]?=some x)(hx:Loc X.env.scope x)(he:PE X e te)(ho:PIp X op ti)(hf:X.fn x=true\/X.env.scope.names.lookup x=some .local:=by first | exact .inl rfl | exact .inr rfl | assumption) :
  PS X (.AugAssign (.Name x pos') op e pos) (tAug i te ti):=by
 intro pins s B H D I h;obtain⟨v,e1,h⟩:=h;obtain⟨m,hn,hl⟩:=I.loc;have vis:Vis X.env.scope x:=by rcases hx with k | k;exact .inl k;exact .inr (.inl k)
 obtain⟨u,r,l⟩:=hl i x v hi e1 vis;refine wpAny_AugAssign_Name ?_;have go:wpAny (model X.prog X.w) X.A (eval e X.env) (λw O9=>wpAny (model X.prog X.w) X.A (inplaceOp op u w) (λr Y2=>wpAny (model X.prog X.w) X.A (storeName X.env x r) (λ_=>SP X pins D .next) X.xe Y2) X.xe O9) X.xe s:=by
  refine thn (he pins s B H _ I h) λw s1 zz12=>?_
  obtain⟨y,H1,I1,r1,q1⟩:=zz12;refine thn (ho pins s1 B H1 v y u w _ I1 r r1 q1) λz s2 zz13=>?_
  obtain⟨zv,H2,I2,r2,q2⟩:=zz13;exact zFC I2 hN hi hx r2 (λs3 I3=>⟨_,H2,I3,q2⟩) hf
 rcases l with ⟨hk,hm⟩ | ⟨hk,c,hc,hcell⟩
 .exact wpAny_loadName_local I.ok.kind hk hn hm go
 .rcases hk with hk | hk
  .exact wpAny_loadName_cell I.ok.kind hk hc hcell go
  .rcases hx with k | k
   .have:X.env.scope.names.lookup x=some .free:=hk;rw[k] at this;cases this
   .have:X.env.scope.names.lookup x=some .free:=hk;rw[k] at this;cases this
def zSP (to ti te:TE)(tget:V->V->Hp->VK->Prop)(tip:TIp)(tset:TSet):TS:=λD B H=>to B H λo H1=>ti B H1 λi H2=>tget o i H2 λx H3=>te B H3 λy H4=>tip x y H4 λz H5=>tset o i z H5 λH6=>D.nx B H6
def PGet (X:Cx)(t:V->V->Hp->VK->Prop):Prop :=
 ∀ (pins:List (Addr×Obj)) (s:Shared) (B:St) (H:Hp) (o i:V) (ov iv:Value) (Q:VK),Inv X pins B H s->RelV o ov->RelV i iv->t o i H Q ->
  wpAny (model X.prog X.w) X.A (getItem ov iv) (EP X pins B Q) X.xe s
theorem zNv (ho:PE X o to)(hi:PE X i ti)(hg:PGet X tget)(he:PE X e te)(hp:PIp X op tip)(hs:PSet X tset)
  (ha:∀ ov iv new,augStore i ov iv new=(do holding [new,ov,iv] (setItem ov iv new);release [new,ov,iv] [];pure .next):=by intros;rfl):PS X (.AugAssign (.Subscript o i tpos) op e pos) (zSP to ti te tget tip tset):=by
 intro pins s B H D I h;refine wpAny_AugAssign_SubscriptAny (thn (ho pins s B H _ I h) λov s1 zz14=>?_) ha;obtain⟨x1,H1,I1,r1,q1⟩:=zz14;refine thn (hi pins s1 B H1 _ I1 q1) λiv s2 zz15=>?_
 obtain⟨x2,H2,I2,r2,q2⟩:=zz15;refine thn (hg pins s2 B H2 x1 x2 ov iv _ I2 r1 r2 q2) λold s3 zz16=>?_
 obtain⟨x3,H3,I3,r3,q3⟩:=zz16;refine thn (he pins s3 B H3 _ I3 q3) λv s4 zz17=>?_
 obtain⟨x4,H4,I4,r4,q4⟩:=zz17;refine thn (hp pins s4 B H4 x3 x4 old v _ I4 r3 r4 q4) λnew s5 zz18=>?_
 obtain⟨x5,H5,I5,r5,q5⟩:=zz18;exact thn (hs pins s5 B H5 x1 x2 x5 ov iv new _ I5 r1 r2 r5 q5) λ_ s6 zy146=>by obtain⟨H6,I6,q6⟩:=zy146;exact⟨B,H6,I6,q6⟩
def ipI (f:Int->Int->Int):TIp:=λx y H Q=>∃ i j,x=.int i/\y=.int j/\Q (.int (f i j)) H
theorem zQ0:PIp X .Add (ipI λi j=>i+j):=by
 intro pins s B H x y v u Q I r1 r2 h;obtain⟨i,j,e1,e2,q⟩:=h;subst e1;subst e2;obtain⟨t,rfl⟩:=r1;obtain⟨t',rfl⟩:=r2;exact iadd_int ⟨.int _,H,I.tok _,⟨_,rfl⟩,q⟩
end
section
variable {X:Cx}{pos:Pos}
def zPt (c:TT)(tb:TS):TS:=λD B H=>∃ W:Nat->St->Hp->Prop,(∃ m,W m B H)/\∀ m B H,W m B H ->
 c B H λb H1=>if b=true then ∃ N:St->Hp->Prop,(∀ O1 H',N O1 H'->∃ m',m' < m/\W m' O1 H')/\tb { D with nx:=N,ct:=N,bk:=D.nx } B H1 else D.nx B H1
theorem zLJ (hp:PassesOwn (model X.prog X.w) X.A X.env X.xe)(hc:PT X c tc)(hb:PSs X body tb):PS X (.While c body [] pos) (zPt tc tb):=by
 intro pins s B H D I h;obtain⟨W,⟨m0,w0⟩,turn⟩:=h;refine wpAny_While (codeAny_whileLoop (λn s'=>∃ O1 H',Inv X pins O1 H' s'/\W n O1 H') ?_ m0 ⟨B,H,I,w0⟩);rintro n s1 ⟨B1,H1,I1,w1⟩;refine wpAny_passesOwn hp (thn (hc pins s1 B1 H1 _ I1 (turn n B1 H1 w1)) λb s2 zz19=>?_);obtain⟨H2,I2,q2⟩:=zz19;cases b with
 | true =>
  obtain⟨N,hN,q2⟩:=q2;refine wpAny_passesOwn hp (thn (hb pins s2 B1 H2 _ I2 q2) λf s3 q3=>?_);cases f with
  | next =>
   obtain⟨B3,H3,I3,n3⟩:=q3;obtain⟨m',hm,w3⟩:=hN B3 H3 n3;exact⟨m',hm,B3,H3,I3,w3⟩
  | cont =>
   obtain⟨B3,H3,I3,n3⟩:=q3;obtain⟨m',hm,w3⟩:=hN B3 H3 n3;exact⟨m',hm,B3,H3,I3,w3⟩
  | brk=>exact q3
  | ret v=>exact q3
 | false =>
  exact wpAny_execs_nil ⟨B1,H2,I2,q2⟩
end
structure It where
 go:Nat->Hp->Prop
 yld:Nat->Hp->V->Hp->Prop
 stop:Nat->Hp->Prop
def FpOk (X:Cx)(pins:List (Addr×Obj))(H:Hp)(b:Addr):Prop :=
 H b=none/\b≠X.env.locals/\b∉X.fs/\(b∈X.ex\/X.s0.heap.objs.size<=b)/\(∀ x c,X.env.cells.lookup x=some c->c≠b)/\∀ p∈X.pn++pins,p.1≠b
theorem Inv.fpOk {X:Cx}{pins:List (Addr×Obj)}{B:St}{H H':Hp}{s:Shared}{b:Addr}(I:Inv X pins B H s)(hb:s.heap.objs.size<=b)(hn:H' b=none):FpOk X pins H' b:=by
 refine⟨hn,Nat.ne_of_gt (xQ I.lt hb),I.nofs hb,.inr (le_trans I.sz hb),λx c e z=>?_,λp hp z=>?_⟩
 .obtain ⟨v,q⟩:=I.cell x c e;exact absurd (xQ q.lt (by simp_all)) (lt_irrefl _)
 .exact absurd (xQ (lt_size (I.pin p hp).1) (by simp_all)) (lt_irrefl _)
structure Turn (P:Program)(w:World)(K:W.Frag)(tg:Expr)(J:It)(fp:List Addr)(it:Addr)(tn:Nat->Heap->Prop):Prop where
 mem:it∈fp
 obj:∀ i h,tn i h->∀ b∈fp,∃ o,h.get? b=some o/\∀ v,o.data≠.cell v
 keep:∀ i h h',tn i h->(∀ b∈fp,∀ o,h.get? b=some o->h'.get? b=some o)->tn i h'
 item:∀ (X:Cx),X.prog=P->X.w=w->X.K=K->X.calm=true->∀ (i:Nat) (pins:List (Addr×Obj)) (s:Shared) (B:St) (H:Hp) (E:Value->Shared->Prop),Inv X pins B H s->(∀ b∈fp,FpOk X pins H b)->tn i s.heap->J.go i H ->
  wpAny (model P w) X.A (pyNext (.ref it)) (λr s1=>∃ u,r=some u /\
   wpAny (model P w) X.A (letOwnedTupleGo tg (.ref it) u) (λ_ s2=>∃ x H',Inv X pins B H' s2/\RelV x u/\J.yld i H x H'/\tn (i+1) s2.heap/\∀ b∈fp,H' b=none) E s1) E s
 done:∀ (X:Cx),X.prog=P->X.w=w->X.K=K->X.calm=true->∀ (i:Nat) (pins:List (Addr×Obj)) (s:Shared) (B:St) (H:Hp) (E:Value->Shared->Prop),Inv X pins B H s->(∀ b∈fp,FpOk X pins H b)->tn i s.heap->J.stop i H ->
  wpAny (model P w) X.A (pyNext (.ref it)) (λr s1=>r=none/\Inv X pins B H s1) E s
 self:∀ (A:Around) (i:Nat) (s:Shared) (Q:Value->Shared->Prop) (E:Value->Shared->Prop),tn i s.heap->Q (.ref it) s->wpAny (model P w) A (pyIter (.ref it)) Q E s
abbrev TI:=St->Hp->(It->Hp->Prop)->Prop
def PIE (X:Cx)(pins:List (Addr×Obj))(B:St)(tg:Expr)(R:It->Hp->Prop)(itv:Value)(s2:Shared):Prop :=
 ∃ (it:Addr) (fp:List Addr) (tn:Nat->Heap->Prop) (J:It) (H':Hp),itv=.ref it/\Inv X pins B H' s2/\Turn X.prog X.w X.K tg J fp it tn/\tn 0 s2.heap/\(∀ b∈fp,FpOk X pins H' b)/\R J H'
def PI (X:Cx)(tg iter:Expr)(wi:TI):Prop :=
 ∀ (pins:List (Addr×Obj)) (s:Shared) (B:St) (H:Hp) (R:It->Hp->Prop),Inv X pins B H s->wi B H R ->
  wpAny (model X.prog X.w) X.A (eval iter X.env) (λv s1=>wpAny (model X.prog X.w) X.A (pyIter v) (PIE X pins B tg R) X.xe s1) X.xe s
theorem zL4 (ho:s.heap.get? it=some o)(hc:o.cls=.type n)(hd:o.data=.fields vs)
  (hn:["enumerate","zip","dict_itemiterator","dict_reverseitemiterator","odict_iterator","itertools.zip_longest","itertools.pairwise"].contains n=false) (hQ:Q () s):wpAny M A (letOwnedTupleGo tg (.ref it) u) Q E s:=by
 cases tg<;>first
  | exact q9 hQ
  | (cases u<;>first
    | exact q9 hQ
    | (refine qQ (wpAny_load ho ?_);rw[hc,hd];show wpAny M A (if _=true then _ else _) Q E s;rw[if_neg (by grind)];exact q9 hQ))
noncomputable def Itl (K:W.Frag)(a:Addr):It :=
 ⟨λi H=>∃ xs x,SqL K H a xs/\xs[i]?=some x,λi H x H'=>H'=H/\∀ xs,SqL K H a xs->xs[i]?=some x,λi H=>∃ xs,SqL K H a xs/\xs.length<=i⟩
noncomputable def Itt (K:W.Frag)(a:Addr):It :=
 ⟨λi H=>∃ xs x,SqT K H a xs/\xs[i]?=some x,λi H x H'=>H'=H/\∀ xs,SqT K H a xs->xs[i]?=some x,λi H=>∃ xs,SqT K H a xs/\xs.length<=i⟩
noncomputable def Itr (lo:Int)(n:Nat):It:=⟨λi _=>i < n,λi H x H'=>H'=H/\x=.int (lo+i),λi _=>n<=i⟩
theorem zIq {P:Program}{w:World}{K:W.Frag}{tg:Expr}(a it:Addr):Turn P w K tg (Itl K a) [it] it (λi h=>h.IsListIter it a i) where
 mem:=by simp
 obj:=λi h st b hb=>by
  have e:b=it:=by simpa using hb
  subst e;obtain⟨o,e,c,d⟩:=st;exact⟨o,e,λv z=>by rw[d] at z;cases z⟩
 keep:=λi h h' st k=>st.at λo e=>k it (by simp) o e
 item:=by
  intro X hP hw hK hc i pins s B H E I hf st hg;subst hP hw hK;obtain⟨xs,x,hq,hx⟩:=hg;obtain⟨its,rv,p,hz⟩:=I.list hq;obtain⟨u,hu,ru⟩:=rv.get hx;obtain⟨f0,f1,f2,f3,f4,f5⟩:=hf it (by simp);refine wpAny_pyNext_list_item st p.isList (x:=u) (by simpa using hu) λh' st' sb=>?_
  have I1:Inv X pins B H { s with heap:=h' }:=I.turned (t':=s.toks) (λb o hb e=>(sb.2 b hb).trans e) f0 f1 f3 f4 f5;obtain⟨o,e,c,d⟩:=id st';exact⟨u,rfl,zL4 (s:={ s with heap:=h' }) e c d (by decide) ⟨x,H,I1,ru,⟨rfl,λys hy=>by rw[I.list_inj hy hq];exact hx⟩,st',λb hb=>(hf b hb).1⟩⟩
 done:=by
  intro X hP hw hK hc i pins s B H E I hf st hg;subst hP hw hK;obtain⟨xs,hq,hx⟩:=hg;obtain⟨its,rv,p,hz⟩:=I.list hq;obtain⟨f0,f1,f2,f3,f4,f5⟩:=hf it (by simp);have hl:=rv.length;exact wpAny_pyNext_list_end (I.ok.hd hc) st p.isList (by simp;omega) λh' eb=>⟨rfl,I.turned (t':=s.toks) (λb o hb e=>eb b o hb e) f0 f1 f3 f4 f5⟩
 self:=λ_ _ _ _ _ st h=>wpAny_pyIter_listiter st h
theorem zIE {P:Program}{w:World}{K:W.Frag}{tg:Expr}(a it:Addr):Turn P w K tg (Itt K a) [it] it (λi h=>h.IsTupleIter it a i) where
 mem:=by simp
 obj:=λi h st b hb=>by
  have e:b=it:=by simpa using hb
  subst e;obtain⟨o,e,c,d⟩:=st;exact⟨o,e,λv z=>by rw[d] at z;cases z⟩
 keep:=λi h h' st k=>st.at λo e=>k it (by simp) o e
 item:=by
  intro X hP hw hK hc i pins s B H E I hf st hg;subst hP hw hK;obtain⟨xs,x,hq,hx⟩:=hg;obtain⟨its,rv,p,hz⟩:=I.tuple hq;obtain⟨u,hu,ru⟩:=rv.get hx;obtain⟨f0,f1,f2,f3,f4,f5⟩:=hf it (by simp);refine wpAny_pyNext_tuple_item st (show s.heap.IsTuple a its.toArray from p) (x:=u) (by simpa using hu) λh' st' sb=>?_
  have I1:Inv X pins B H { s with heap:=h' }:=I.turned (t':=s.toks) (λb o hb e=>(sb.2 b hb).trans e) f0 f1 f3 f4 f5;obtain⟨o,e,c,d⟩:=id st';exact⟨u,rfl,zL4 (s:={ s with heap:=h' }) e c d (by decide) ⟨x,H,I1,ru,⟨rfl,λys hy=>by rw[I.tuple_inj hy hq];exact hx⟩,st',λb hb=>(hf b hb).1⟩⟩
 done:=by
  intro X hP hw hK hc i pins s B H E I hf st hg;subst hP hw hK;obtain⟨xs,hq,hx⟩:=hg;obtain⟨its,rv,p,hz⟩:=I.tuple hq;obtain⟨f0,f1,f2,f3,f4,f5⟩:=hf it (by simp);have hl:=rv.length;exact wpAny_pyNext_tuple_end (I.ok.hd hc) st (show s.heap.IsTuple a its.toArray from p) (by simp;omega) λh' eb=>⟨rfl,I.turned (t':=s.toks) (λb o hb e=>eb b o hb e) f0 f1 f3 f4 f5⟩
 self:=λ_ _ _ _ _ st h=>wpAny_pyIter_tupleiter st h
theorem zIF {P:Program}{w:World}{K:W.Frag}{tg:Expr}(it:Addr)(lo:Int)(n:Nat):Turn P w K tg (Itr lo n) [it] it (λi h=>IsRangeIter h it (lo+(i:Nat)*1) ((n:Int) - (i:Nat)) 1) where
 mem:=by simp
 obj:=λi h st b hb=>by
  simp_all
 keep:=λi h h' st k=>k it (by simp) _ st
 item:=by
  intro X hP hw hK hc i pins s B H E I hf st hg;subst hP hw hK;obtain⟨f0,f1,f2,f3,f4,f5⟩:=hf it (by simp);have W:=Walks.range (prog:=X.prog) (w:=X.w) (I.ok.hd hc) it lo 1 n;refine W.item i s _ _ hg st λv h' tk hv st' kk=>?_
  obtain⟨t,rfl⟩:=hv;have I1:Inv X pins B H { s with heap:=h',toks:=tk }:=I.turned (λb o hb e=>kk b o (by simpa using hb) e) f0 f1 f3 f4 f5;refine⟨_,rfl,zL4 (s:={ s with heap:=h',toks:=tk }) (n := "range_iterator") st' rfl rfl (by decide) ⟨.int (lo+i),H,I1,⟨t,?_⟩,⟨rfl,rfl⟩,st',λb hb=>(hf b hb).1⟩⟩;rw[Int.mul_one]
 done:=by
  intro X hP hw hK hc i pins s B H E I hf st hg;subst hP hw hK;obtain⟨f0,f1,f2,f3,f4,f5⟩:=hf it (by simp);exact wpAny_pyNext_range_end (I.ok.hd hc) st (by have:n<=i:=hg;omega) λh' eb=>⟨rfl,I.turned (t':=s.toks) (λb o hb e=>eb b o hb e) f0 f1 f3 f4 f5⟩
 self:=λ_ _ _ _ _ st h=>wpAny_pyIter_rangeiter st h
section
variable {X:Cx}{tg:Expr}
theorem zHX {lo:Int}(I:Inv X pins B H s)(h1:-(2^62)<=lo)(h2:lo < 2^62)(h3:-(2^62)<=hi)(h4:hi < 2^62)
  (q:R (Itr lo (hi - lo).toNat) H):wpAny (model X.prog X.w) X.A (pyIter (.ref s.heap.objs.size)) (PIE X pins B tg R) E { s with heap:=s.heap.push { cls:=.type "range",data:=.fields #[.int lo t,.int hi u,.int 1 v] },toks:=tk }:=by
 refine wpAny_pyIter_range (IsRange.new ..) (small_one h1 h2 h3 h4) ?_;have I1:Inv X pins B H { s with heap:=s.heap.push { cls:=.type "range",data:=.fields #[.int lo t,.int hi u,.int 1 v] },toks:=tk }:=I.kept λb o e=>get?_push_of_some _ e
 refine⟨(s.heap.push { cls:=.type "range",data:=.fields #[.int lo t,.int hi u,.int 1 v] }).objs.size,[(s.heap.push { cls:=.type "range",data:=.fields #[.int lo t,.int hi u,.int 1 v] }).objs.size],_,_,H,rfl,
  I1.kept λb o e=>get?_push_of_some _ e,zIF _ lo (hi - lo).toNat,?_,λb hb=>?_,q⟩
 .have e1:lo+((0:Nat):Int)*1=lo:=by simp
  have e2:(((hi - lo).toNat:Nat):Int) - ((0:Nat):Int)=Builtin.Range.rangeSize lo hi 1:=by rw[rangeSize_one];split<;>omega
  rw[e1,e2];exact get?_push_size _ rfl
 .have e:b=(s.heap.push { cls:=.type "range",data:=.fields #[.int lo t,.int hi u,.int 1 v] }).objs.size:=by simpa using hb
  subst e;exact I1.fpOk (le_refl _) (I1.hok.fresh (le_refl _))
def zSp (ta:TA):TI:=λB H R=>ta B H λvs H1=>∃ j:Int,vs=[.int j]/\-(2^62)<=j/\j < 2^62/\R (Itr 0 j.toNat) H1
def zSo (ta:TA):TI:=λB H R=>ta B H λvs H1=>∃ i j:Int,vs=[.int i,.int j]/\(-(2^62)<=i/\i < 2^62/\-(2^62)<=j/\j < 2^62)/\R (Itr i (j - i).toNat) H1
theorem zFx (hg:Gl X "range")(hm:X.mg "range"=none)(ha:PA X [a] ta)(hs:starEach [a] X.env=[(false,eval a X.env)]:=by rfl):PI X tg (.Call (.Name "range" p) [a] [] pos) (zSp ta):=by
 intro pins s B H R I h;refine Call_ (zC7 I hg hm boot_range (PyProof.Rows.callWith_type1 (thn (ha pos pins s B H _ I h) λus s1 zz20=>?_) hs rfl));obtain⟨vs,H1,I1,r1,q1⟩:=zz20;obtain⟨j,e,q1,q2,q⟩:=q1;subst e;cases r1 with
 | cons r rr =>
  cases rr;obtain⟨t,rfl⟩:=r;exact call_range_1 (zHX I1 (by omega) (by omega) q1 q2 (by simpa using q))
theorem zJC {a b:Expr}{ta:TA}{p pos:Pos}(hg:Gl X "range")(hm:X.mg "range"=none)(ha:PA X [a,b] ta)(hs:starEach [a,b] X.env=[(false,eval a X.env),(false,eval b X.env)]:=by rfl)(hs2:starEach [b] X.env=[(false,eval b X.env)]:=by rfl) :
  PI X tg (.Call (.Name "range" p) [a,b] [] pos) (zSo ta):=by
 intro pins s B H R I h;refine Call_ (zC7 I hg hm boot_range (PyProof.Rows.callWith_type1 (thn (ha pos pins s B H _ I h) λus s1 zz21=>?_) (by rw[hs,hs2]) (by rw[hs2];rfl)));obtain⟨vs,H1,I1,r1,q1⟩:=zz21;obtain⟨i,j,e,⟨q1,q2,q3,q4⟩,q⟩:=q1;subst e;cases r1 with
 | cons r rr =>
  cases rr with
  | cons r' rr =>
   cases rr;obtain⟨t,rfl⟩:=r;obtain⟨t',rfl⟩:=r';exact call_range_2 (zHX I1 q1 q2 q3 q4 q)
def tFor (wi:TI)(g:TG)(tb:TS):TS:=λD B H=>wi B H λJ H1=>∃ W:Nat->Nat->St->Hp->Prop,(∃ m,W 0 m B H1)/\∀ i m B H,W i m B H ->
 (J.stop i H/\D.nx B H)\/(J.go i H/\∃ N:St->Hp->Prop,(∀ O1 H',N O1 H'->∃ m',m' < m/\W (i+1) m' O1 H')/\∀ x H',J.yld i H x H'->g x B H' λB2 H2=>tb { D with nx:=N,ct:=N,bk:=D.nx } B2 H2)
noncomputable def zBM (fp:List Addr)(h:Heap):List (Addr×Obj):=fp.filterMap λb=>(h.get? b).map λo=>(b,o)
theorem zBr (hb:b∈fp)(e:h.get? b=some o):(b,o)∈zBM fp h:=List.mem_filterMap.mpr ⟨b,hb,by rw[e];rfl⟩
theorem zDy (hp:p∈zBM fp h):p.1∈fp/\h.get? p.1=some p.2:=by
 obtain⟨b,hb,e⟩:=List.mem_filterMap.mp hp;cases q:h.get? b with
 | none=>rw[q] at e;cases e
 | some o =>
  rw[q] at e;have e':=xj e;subst e';exact⟨hb,q⟩
theorem Inv.pinned {pins:List (Addr×Obj)}{B:St}{H:Hp}{s:Shared}{fp:List Addr}(I:Inv X pins B H s)(hf:∀ b∈fp,FpOk X pins H b)(ho:∀ b∈fp,∃ o,s.heap.get? b=some o/\∀ v,o.data≠.cell v):Inv X (pins++zBM fp s.heap) B H s :=
 I.pins_of λp hp=>(mem_append.mp hp).elim (λz=>I.pin p (xq _ z)) λz=>by
  obtain⟨hb,e⟩:=zDy z;obtain⟨f0,f1,f2,_⟩:=hf p.1 hb;obtain _:=ho p.1 hb
  simp_all
theorem Inv.unpinned {pins pl:List (Addr×Obj)}{B:St}{H:Hp}{s:Shared}(I:Inv X (pins++pl) B H s):Inv X pins B H s:=I.pins_of λp hp=>I.pin p (xq _ (List.mem_append_left _ hp))
theorem zMz (hp:PassesOwn (model X.prog X.w) X.A X.env X.xe)(hc:X.calm=true)(hi:PI X tg iter wi)(hg:PG X tg g)(hb:PSs X body tb)
  (hs:∀ x,foldedSetIterable iter X.env x=pure x:=by intro _;rfl):PS X (.For tg iter body [] pos) (tFor wi g tb):=by
 intro pins s B H D I h;refine wpAny_For (thn (hi pins s B H _ I h) λv s1 h1=>thn h1 λitv s2 h2=>?_) hs;obtain⟨it,fp,tn,J,H2,e,I2,T,st2,f2,W,⟨m0,w0⟩,turn⟩:=h2;subst e;have stat:∀ {H':Hp},(∀ b∈fp,H' b=none)->∀ b∈fp,FpOk X pins H' b:=λhn b hb=>⟨hn b hb,(f2 b hb).2⟩
 refine codeAny_forLoop_any (λn s'=>∃ i O1 H',Inv X pins O1 H' s'/\tn i s'.heap/\(∀ b∈fp,H' b=none)/\W i n O1 H') ?_ m0 ⟨0,B,H2,I2,st2,λb hb=>(f2 b hb).1,w0⟩;rintro n s3 ⟨i,B3,H3,I3,st3,fr3,w3⟩;rcases turn i n B3 H3 w3 with ⟨stop,qn⟩ | ⟨go,N,hN,step⟩
 .refine wpAny_passesOwn hp (thn (T.done X rfl rfl rfl hc i pins s3 B3 H3 X.xe I3 (stat fr3) st3 stop) λr s4 zz22=>?_);obtain⟨hr,I4⟩:=zz22;subst hr;exact wpAny_execs_nil ⟨B3,H3,I4,qn⟩
 .refine wpAny_passesOwn hp (thn (T.item X rfl rfl rfl hc i pins s3 B3 H3 X.xe I3 (stat fr3) st3 go) λr s4 zz23=>?_);obtain⟨u,hr,h4⟩:=zz23;subst hr;refine wpAny_passesOwn hp (thn h4 λ_ s5 zz24=>?_);obtain⟨x,H5,I5,r5,y5,st5,fr5⟩:=zz24;have I5':=I5.pinned (stat fr5) (T.obj _ _ st5);refine wpAny_passesOwn hp (thn (hg _ s5 B3 H5 x u _ I5' r5 (step x H5 y5)) λ_ s6 zz25=>?_);obtain⟨B6,H6,I6,q6⟩:=zz25;refine wpAny_passesOwn hp (thn (hb _ s6 B6 H6 _ I6 q6) λf s7 q7=>?_);have again:∀ {B7:St} {H7:Hp},Inv X (pins++zBM fp s5.heap) B7 H7 s7->N B7 H7->∃ m,m < n/\∃ i O1 H',Inv X pins O1 H' s7/\tn i s7.heap/\(∀ b∈fp,H' b=none)/\W i m O1 H':=λ{B7 H7} I7 n7=>by
   obtain⟨m',hm,w7⟩:=hN B7 H7 n7;refine⟨m',hm,i+1,B7,H7,I7.unpinned,T.keep _ _ _ st5 λb hb o e=>(I7.pin (b,o) (xq _ (xq _ (zBr hb e)))).1,λb hb=>?_,w7⟩;obtain⟨o,e,d⟩:=T.obj _ _ st5 b hb;exact(I7.pin (b,o) (xq _ (xq _ (zBr hb e)))).2.1
  cases f with
  | next=>obtain⟨B7,H7,I7,n7⟩:=q7;exact again I7 n7
  | cont=>obtain⟨B7,H7,I7,n7⟩:=q7;exact again I7 n7
  | brk=>obtain⟨B7,H7,I7,q7⟩:=q7;exact⟨B7,H7,I7.unpinned,q7⟩
  | ret v=>obtain⟨x7,B7,H7,I7,r7,q7⟩:=q7;exact⟨x7,B7,H7,I7.unpinned,r7,q7⟩
end
abbrev R2:=V->V->Hp->VK->Prop
def OpR (X:Cx)(f:Value->Value->Sem Value)(r:R2):Prop :=
 ∀ (pins:List (Addr×Obj)) (s:Shared) (B:St) (H:Hp) (x y:V) (v u:Value) (Q:VK),Inv X pins B H s->RelV x v->RelV y u->r x y H Q ->
  wpAny (model X.prog X.w) X.A (f v u) (EP X pins B Q) X.xe s
def UnR (X:Cx)(f:Value->Sem Value)(r:V->Hp->VK->Prop):Prop :=
 ∀ (pins:List (Addr×Obj)) (s:Shared) (B:St) (H:Hp) (x:V) (v:Value) (Q:VK),Inv X pins B H s->RelV x v->r x H Q ->
  wpAny (model X.prog X.w) X.A (f v) (EP X pins B Q) X.xe s
def zEV (X:Cx)(f:Value)(r:List V->Hp->VK->Prop):Prop :=
 ∀ (pins:List (Addr×Obj)) (s:Shared) (B:St) (H:Hp) (xs:List V) (us:List Value) (Q:VK),Inv X pins B H s->Vals xs us->r xs H Q ->
  wpAny (model X.prog X.w) X.A (call f us) (EP X pins B Q) X.xe s
def tOp (r:R2)(ta tb:TE):TE:=λB H Q=>ta B H λx H1=>tb B H1 λy H2=>r x y H2 Q
def tUn (r:V->Hp->VK->Prop)(ta:TE):TE:=λB H Q=>ta B H λx H1=>r x H1 Q
def rI (C:Int->Int->Prop)(g:Int->Int->V):R2:=λx y H Q=>∃ i j,x=.int i/\y=.int j/\C i j/\Q (g i j) H
def rI0 (g:Int->Int->V):R2:=λx y H Q=>∃ i j,x=.int i/\y=.int j/\Q (g i j) H
def rU (g:Int->V):V->Hp->VK->Prop:=λx H Q=>∃ i,x=.int i/\Q (g i) H
section
variable {X:Cx}{a b c:Expr}{ta tb tc:TE}{pos:Pos}
theorem binT (ha:PE X a ta)(hb:PE X b tb){R:V->V->Hp->Prop}(I:Inv X pins B H s)
  (h:ta B H λx H1=>tb B H1 λy H2=>R x y H2)  {f:Value->Value->Sem Value}
  (hf:∀ v u s2 x y H2,Inv X pins B H2 s2->RelV x v->RelV y u->R x y H2->wpAny (model X.prog X.w) X.A (f v u) Q X.xe s2) :
  wpAny (model X.prog X.w) X.A (eval a X.env) (λv O3=>wpAny (model X.prog X.w) X.A (eval b X.env) (λu O9=>wpAny (model X.prog X.w) X.A (f v u) Q X.xe O9) X.xe O3) X.xe s:=by
 refine thn (ha pins s B H _ I h) λv s1 zz26=>?_
 obtain⟨x,H1,I1,r1,q1⟩:=zz26;refine thn (hb pins s1 B H1 _ I1 q1) λu s2 zz27=>?_
 obtain⟨y,H2,I2,r2,q2⟩:=zz27;exact hf v u s2 x y H2 I2 r1 r2 q2
theorem zSY (ho:OpR X (binaryOp op) r)(ha:PE X a ta)(hb:PE X b tb):PE X (.BinOp a op b pos) (tOp r ta tb):=by
 intro pins s B H Q I h;exact wpAny_BinOp (binT ha hb I h λv u s2 x y H2 I2 rx ry q=>ho pins s2 B H2 x y v u Q I2 rx ry q)
theorem zSW (ho:UnR X (unaryOp op) r)(ha:PE X a ta):PE X (.UnaryOp op a pos) (tUn r ta):=by
 intro pins s B H Q I h;exact UnaryOp_ (thn (ha pins s B H _ I h) λv s1 zy147=>by obtain⟨x,H1,I1,r1,q1⟩:=zy147;exact ho pins s1 B H1 x v Q I1 r1 q1)
theorem opI {g:Int->Int->Int}
  (rule:∀ (i j:Int) (t u:Tok) (s:Shared) (Q:Value->Shared->Prop) (E:Value->Shared->Prop),C i j->Q (.int (g i j) s.toks) { s with toks:=s.toks+1 }->wpAny (model X.prog X.w) X.A (f (.int i t) (.int j u)) Q E s) :
  OpR X f (rI C λi j=>.int (g i j)):=by
 intro pins s B H x y v u Q I rx ry h;obtain⟨i,j,rfl,rfl,hc,q⟩:=h;obtain⟨t,rfl⟩:=rx;obtain⟨t',rfl⟩:=ry;exact rule i j t t' s _ _ hc ⟨.int _,H,I.tok _,⟨_,rfl⟩,q⟩
theorem opI0 {g:Int->Int->Int}
  (rule:∀ (i j:Int) (t u:Tok) (s:Shared) (Q:Value->Shared->Prop) (E:Value->Shared->Prop),Q (.int (g i j) s.toks) { s with toks:=s.toks+1 }->wpAny (model X.prog X.w) X.A (f (.int i t) (.int j u)) Q E s) :
  OpR X f (rI0 λi j=>.int (g i j)):=by
 intro pins s B H x y v u Q I rx ry h;obtain⟨i,j,rfl,rfl,q⟩:=h;obtain⟨t,rfl⟩:=rx;obtain⟨t',rfl⟩:=ry;exact rule i j t t' s _ _ ⟨.int _,H,I.tok _,⟨_,rfl⟩,q⟩
theorem opB0 {g:Int->Int->Bool}
  (rule:∀ (i j:Int) (t u:Tok) (s:Shared) (Q:Value->Shared->Prop) (E:Value->Shared->Prop),Q (.bool (g i j)) s->wpAny (model X.prog X.w) X.A (f (.int i t) (.int j u)) Q E s) :
  OpR X f (rI0 λi j=>.bl (g i j)):=by
 intro pins s B H x y v u Q I rx ry h;obtain⟨i,j,rfl,rfl,q⟩:=h;obtain⟨t,rfl⟩:=rx;obtain⟨t',rfl⟩:=ry;exact rule i j t t' s _ _ ⟨.bl _,H,I,rfl,q⟩
def CPow (i j:Int):Prop:=0<=j/\j<=1000000/\i.natAbs < 2^64
def CMul (i j:Int):Prop:=(-(2^64) < i/\i < 2^64)\/(-(2^64) < j/\j < 2^64)
theorem CMul.ok (h:CMul i j):IntMulOk i j:=by
 rcases h with ⟨h1,h2⟩ | ⟨h1,h2⟩
 .exact .of_left (intBits_le_64 h1 h2)
 .exact .of_right (intBits_le_64 h1 h2)
theorem zQe:OpR X (binaryOp .Add) (rI0 λi j=>.int (i+j)):=opI0 λ_ _ _ _ _ _ _ q=>add_int q
theorem zQT:OpR X (binaryOp .Sub) (rI0 λi j=>.int (i - j)):=opI0 λ_ _ _ _ _ _ _ q=>sub_int q
theorem zOB:OpR X (binaryOp .Mod) (rI (λ_ j=>j≠0) λi j=>.int (i.fmod j)):=opI λ_ _ _ _ _ _ _ hc q=>mod_int' hc q
theorem zQV:OpR X (binaryOp .Pow) (rI CPow λi j=>.int (i^j.toNat)):=opI λ_ _ _ _ _ _ _ hc q=>pow_int_small hc.1 hc.2.1 hc.2.2 q
theorem zOX:OpR X (inplaceOp .Add) (rI0 λi j=>.int (i+j)):=opI0 λ_ _ _ _ _ _ _ q=>iadd_int q
theorem zOW:OpR X (inplaceOp .Sub) (rI0 λi j=>.int (i - j)):=opI0 λ_ _ _ _ _ _ _ q=>isub_int q
theorem unI {g:Int->Int}
  (rule:∀ (i:Int) (t:Tok) (s:Shared) (Q:Value->Shared->Prop) (E:Value->Shared->Prop),Q (.int (g i) s.toks) { s with toks:=s.toks+1 }->wpAny (model X.prog X.w) X.A (f (.int i t)) Q E s) :
  UnR X f (rU λi=>.int (g i)):=by
 intro pins s B H x v Q I rx h;obtain⟨i,rfl,q⟩:=h;obtain⟨t,rfl⟩:=rx;exact rule i t s _ _ ⟨.int _,H,I.tok _,⟨_,rfl⟩,q⟩
theorem zPp:UnR X (unaryOp .USub) (rU λi=>.int (-i)):=unI λ_ _ _ _ _ q=>neg_int q
end
section
variable {X:Cx}{a b c:Expr}{ta tb tc:TE}{pos:Pos}
theorem zNQ {pins:List (Addr×Obj)}{B:St}{H:Hp}{s:Shared}{Q:VK}{k k':Bool}(I:Inv X pins B H s)(q:Q (.bl k) H)(e:k=k'):EP X pins B Q (.bool k') s:=by
 subst e;exact⟨.bl k,H,I,rfl,q⟩
theorem zQY:OpR X (compareOp .Lt) (rI0 λi j=>.bl (decide (i < j))):=opB0 λ_ _ _ _ _ _ _ q=>lt_int q
theorem zQZ:OpR X (compareOp .LtE) (rI0 λi j=>.bl (decide (i<=j))):=opB0 λ_ _ _ _ _ _ _ q=>le_int q
theorem zQb:OpR X (compareOp .Gt) (rI0 λi j=>.bl (decide (j < i))):=opB0 λ_ _ _ _ _ _ _ q=>gt_int q
theorem zQc:OpR X (compareOp .GtE) (rI0 λi j=>.bl (decide (j<=i))):=opB0 λ_ _ _ _ _ _ _ q=>ge_int q
theorem zQa:OpR X (compareOp .Is) (λx y H Q=>y=.non/\Q (.bl (decide (x=.non))) H):=by
 intro pins s B H x y v u Q I rx ry h;obtain⟨rfl,q⟩:=h;cases ry;refine is_none_gen (zNQ I q ?_);cases x<;>first
  | rfl
  | obtain⟨t,rfl⟩:=rx;rfl
theorem zN9:OpR X (compareOp .IsNot) (λx y H Q=>y=.non/\Q (.bl (!decide (x=.non))) H):=by
 intro pins s B H x y v u Q I rx ry h;obtain⟨rfl,q⟩:=h;cases ry;refine isnot_none_gen (zNQ I q ?_);cases x<;>first
  | rfl
  | obtain⟨t,rfl⟩:=rx;rfl
theorem OpR.or (h:OpR X f r)(h':OpR X f r'):OpR X f (λx y H Q=>r x y H Q\/r' x y H Q):=by
 intro pins s B H x y v u Q I rx ry q;rcases q with q | q
 .exact h pins s B H x y v u Q I rx ry q
 .exact h' pins s B H x y v u Q I rx ry q
theorem zDN (b:Expr)(h:op≠.In:=by decide)(h2:op≠.NotIn:=by decide):behindInMarks op b=false:=by
 have e1:(op==CmpOp.In)=false:=by cases op<;>first | rfl | exact absurd rfl h
 have e2:(op==CmpOp.NotIn)=false:=by cases op<;>first | rfl | exact absurd rfl h2
 cases b<;>simp[behindInMarks,e1,e2]
theorem zJD (ho:OpR X (compareOp op) r)(ha:PE X a ta)(hb:PE X b tb)(hm:behindInMarks op b=false):PE X (.Compare a [op] [b] pos) (tOp r ta tb):=by
 intro pins s B H Q I h;exact wpAny_Compare1 (binT ha hb I h λv u s2 x y H2 I2 rx ry q=>ho pins s2 B H2 x y v u Q I2 rx ry q) hm
def zPu (t:TE):TT:=λB H Q=>t B H λx H'=>∃ k,x=.bl k/\Q k H'
theorem zGi (ho:OpR X (compareOp op) r)(ha:PE X a ta)(hb:PE X b tb)(hm:behindInMarks op b=false):PT X (.Compare a [op] [b] pos) (zPu (tOp r ta tb)):=by
 intro pins s B H Q I h;refine wpAny_isTrue_Compare1 (thn (ha pins s B H _ I h) λv s1 ⟨x,H1,I1,r1,q1⟩=>thn (hb pins s1 B H1 _ I1 q1) λu s2 ⟨y,H2,I2,r2,q2⟩ =>
  thn (ho pins s2 B H2 x y v u _ I2 r1 r2 q2) λc s3 ⟨z,H3,I3,r3,k,e,q3⟩=>?_) hm
 subst e;cases r3;exact wpAny_truthy_bool ⟨H3,I3,q3⟩
def zIs (r r':R2)(ta tb tc:TE):TE:=λB H Q=>ta B H λx H1=>tb B H1 λy H2=>r x y H2 λz H3=>∃ k,z=.bl k /\
 (if k=true then tc B H3 λw' H4=>r' y w' H4 Q else Q (.bl false) H3)
theorem zLQ (ho:OpR X (compareOp op) r)(ho':OpR X (compareOp op') r')(ha:PE X a ta)(hb:PE X b tb)(hc:PE X c tc)
  (hm:lastMarks [op,op'] [b,c]=false:=by with_unfolding_all rfl):PE X (.Compare a [op,op'] [b,c] pos) (zIs r r' ta tb tc):=by
 intro pins s B H Q I h;refine Compare_chain (thn (ha pins s B H _ I h) λv s1 ⟨x,H1,I1,r1,q1⟩=>chain_link (thn (hb pins s1 B H1 _ I1 q1) λu s2 ⟨y,H2,I2,r2,q2⟩ =>
  thn (ho pins s2 B H2 x y v u _ I2 r1 r2 q2) λd s3 ⟨z,H3,I3,r3,k,e,q3⟩=>?_)) hm
 subst e;cases r3;refine wpAny_truthy_bool ?_;cases k with
 | false=>exact ite_ff ⟨.bl false,H3,I3,rfl,q3⟩
 | true=>exact ite_tt (chain_last (thn (hc pins s3 B H3 _ I3 q3) λw' s4 zy148=>by obtain⟨z',H4,I4,r4,q4⟩:=zy148;exact ho' pins s4 B H4 y z' u w' Q I4 r2 r4 q4))
theorem zLI (ho:OpR X (compareOp op) r)(ho':OpR X (compareOp op') r')(ha:PE X a ta)(hb:PE X b tb)(hc:PE X c tc)
  (hm:lastMarks [op,op'] [b,c]=false:=by with_unfolding_all rfl):PT X (.Compare a [op,op'] [b,c] pos) (zPu (zIs r r' ta tb tc)):=by
 intro pins s B H Q I h;refine isTrue_chain (thn (ha pins s B H _ I h) λv s1 ⟨x,H1,I1,r1,q1⟩=>test_link (thn (hb pins s1 B H1 _ I1 q1) λu s2 ⟨y,H2,I2,r2,q2⟩ =>
  thn (ho pins s2 B H2 x y v u _ I2 r1 r2 q2) λd s3 ⟨z,H3,I3,r3,k,e,q3⟩=>?_)) hm
 subst e;cases r3;refine wpAny_truthy_bool ?_;cases k with
 | false =>
  obtain⟨k',e',q'⟩:=q3;cases e';exact ite_ff ⟨H3,I3,q'⟩
 | true =>
  refine ite_tt (test_last (thn (hc pins s3 B H3 _ I3 q3) λw' s4 ⟨z',H4,I4,r4,q4⟩=>thn (ho' pins s4 B H4 y z' u w' _ I4 r2 r4 q4) λd' s5 zz28=>?_));obtain⟨z2,H5,I5,r5,k2,e2,q5⟩:=zz28;subst e2;cases r5;exact wpAny_truthy_bool ⟨H5,I5,q5⟩
theorem zF9:(sizeLine:Nat) < 2^63:=by decide
theorem zID (r:Vals [x] us):∃ u,us=[u]/\RelV x u:=by
 cases r with
 | cons r1 r2=>cases r2;exact⟨_,rfl,r1⟩
theorem zK8 (r:Vals [x,y] us):∃ u w',us=[u,w']/\RelV x u/\RelV y w':=by
 cases r with
 | cons r1 r2 =>
  cases r2 with
  | cons r3 r4=>cases r4;exact⟨_,_,rfl,r1,r3⟩
theorem zMh:zEV X (.builtin "abs") (λxs H Q=>∃ i,xs=[.int i]/\Q (.int (if i < 0 then -i else i)) H):=by
 intro pins s B H xs us Q I r h;obtain⟨i,rfl,q⟩:=h;obtain⟨u,rfl,t,rfl⟩:=zID r;exact call_abs_int λu tk=>⟨.int _,H,I.tok _,⟨_,rfl⟩,q⟩
theorem zKt (hc:X.calm=true):zEV X (.builtin "max") (λxs H Q=>∃ i j,xs=[.int i,.int j]/\Q (.int (if j>i then j else i)) H):=by
 intro pins s B H xs us Q I r h;obtain⟨i,j,rfl,q⟩:=h;obtain⟨u,w',rfl,⟨t,rfl⟩,⟨t',rfl⟩⟩:=zK8 r;refine max_two_ints (I.ok.hd hc) λh' tk k=>⟨_,H,I.kept k,?_,q⟩
 by_cases hj:j>i
 .rw [if_pos hj,if_pos hj];exact⟨_,rfl⟩
 .rw [if_neg hj,if_neg hj];exact⟨_,rfl⟩
end
structure ObjM (h:Heap)(x dx C:Addr)(mA:Str->Option Value):Prop where
 obj:h.get? x=some (W.instObj C dx)
 ns:h.Ns1 dx mA
 ne:dx≠x
theorem zJf {h:Heap}(n:h.Ns1 dx mA):∃ od,h.get? dx=some od/\∀ name,W.lookIn name od=some (mA name):=by
 obtain⟨o,es,ep,ho,hd,hk,_,hm⟩:=n;refine⟨o,ho,λname=>?_⟩;have e:=hm name;unfold nsFind findBy at e;unfold W.lookIn;rw[hd];dsimp only;split
 .simp_all
 .rename_i q;have a:es.toList.any (·.refKey)=false:=by
   rw[List.any_eq_false];intro y hy;obtain⟨z,t,hkey⟩:=hk y (Array.mem_toList_iff.mp hy);simp[DictEntry.refKey,hkey]
  grind
theorem ObjM.look (I:ObjM h x dx C mA):∃ od,W.InstAt h x (W.instObj C dx) C (some od)/\∀ name,W.lookIn name od=some (mA name) :=
 let ⟨od,ho,hl⟩:=zJf I.ns
 ⟨od,⟨I.obj,rfl,rfl,ho⟩,hl⟩
section
variable {prog:Program}{w:World}{A:Around}{E:Value->Shared->Prop}{s:Shared}{K:W.Frag}{x dx C f:Addr}{mA:Str->Option Value}{name:Str}{v:Value}
theorem zOy (X:K.In s.heap)(I:ObjM s.heap x dx C mA)(hg:W.plainGet K C name=true)(hh:W.hasDictIn K C=true)
  (ha:W.findIn K (.ref C) name=some none) (hv:mA name=some v) (hv':W.handedIn v=true) (h:Q v { s with toks:=s.toks+1 }) :
  wpAny (model prog w) A (getAttr (.ref x) name expr) Q E s:=by
 obtain⟨od,J,hl⟩:=I.look;exact W.get_value X J (W.plainGet_of hg).1 (W.findObj_own hh ha rfl (by simp_all)) hv' h
theorem zL6 (X:K.In s.heap)(I:ObjM s.heap x dx C mA)(hg:W.plainGet K C name=true)
  (hf:W.findIn K (.ref C) name=some (some (.ref f))) (ht:W.isFn K (.ref f)=true) (hv:mA name=none) (h:Q (.ref f,[.ref x]) s) :
  wpAny (model prog w) A (getMethod (.ref x) name pl) Q E s:=by
 obtain⟨od,J,hl⟩:=I.look;exact W.method_fn X J (W.plainGet_of hg).1 (W.plainGet_of hg).2 hf (beq_iff_eq.mp ht) (by show (W.lookIn name od).map (·.isSome)=some false;rw[hl,hv];rfl) h
theorem zNl (X:K.In s.heap)(I:ObjM s.heap x dx C mA)
  (hs:W.findIn K (.ref C) "__setattr__"=some (some (.builtin "object.__setattr__"))) (hp:W.plainOver K C=true) (ht:W.takerIn K C name=some none) (hh:W.hasDictIn K C=true)
  (hw:PySem.Within mA ns) (hsz:ns.length<=sizeLine)
  (h:∀ h',ObjM h' x dx C (λy=>if y=name then some v else mA y)->Heap.SameBut dx s.heap h'->Q () { s with heap:=h',toks:=s.toks+2 }) :
  wpAny (model prog w) A (setAttr (.ref x) name v) Q E s:=by
 obtain⟨od,J,hl⟩:=I.look;refine W.set_plain X J hs (W.osa_open (s:={ s with toks:=s.toks+1 }) (r:=none) X J hp ht λb=>?_);obtain⟨cd,hc,hd'⟩:=W.any_some hh;refine qQ (q9 (qQ (qQ (wpAny_loadPart I.obj (qQ (W.Looks.here (s:={ s with toks:=s.toks+1 }) (W.looks_clsIn X hc) ?_))))));rw[hd'];refine q9 (a:=some dx) (qQ (q9 (qQ ?_)));refine wpAny_nsSet1 (s:={ s with toks:=s.toks+1 }) I.ns λh' hn2 hs2=>?_
 obtain⟨oD,esD,epD,hoD,hdD,hcD⟩:=hn2.count (PySem.Within.cons name v hw);refine qQ (wpAny_lookBehind hoD (by rw[hdD];exact pastItsLine_dict (le_trans hcD (by rw[xY];omega))) ?_);exact q9 (h _ ⟨(hs2.2 _ (Ne.symm I.ne)).trans I.obj,hn2,I.ne⟩ hs2)
theorem zLb (X:K.In s.heap)(hm:W.makesIn K C=true)
  (hi:W.findIn K (.ref C) "__init__"=some (some (.ref f))) (hf:W.typeIn K (.ref f)=some (.type "function"))
  (h:codeAny (model prog w) (A.under (.builtin "type.__call__" ⟨.ref C::vs,kw⟩)) (.call (.ref f) ⟨.ref (s.heap.objs.size+1)::vs,kw⟩) (W.InitBack (s.heap.objs.size+1) R)
   { s with heap:=(s.heap.push W.emptyDict).push (W.instObj C s.heap.objs.size) }) :
  codeAny (model prog w) A (.call (.ref C) ⟨vs,kw⟩) R s:=W.make_core (W.makes_of X hm) (W.looks_findIn X hi) (λself=>W.bind_fn X self hf) (.inl rfl) h
end
noncomputable def putF (f:Str)(v:V):List (Str×V)->List (Str×V)
 | []=>[(f,v)]
 | (g,x)::r=>if g=f then (g,v)::r else (g,x)::putF f v r
theorem zCR (f g:Str)(v:V):∀ fs:List (Str×V),(putF f v fs).lookup g=if g=f then some v else fs.lookup g
 | []=>by
  show List.lookup g [(f,v)]=_;by_cases h:g=f
  .have hb:(g==f)=true:=beq_iff_eq.mpr h;simp only[List.lookup,hb,if_pos h]
  .have hb:(g==f)=false:=beq_eq_false_iff_ne.mpr h;simp only[List.lookup,hb,if_neg h]
 | (k,x)::r=>by
  have ih:=zCR f g v r;rw[show putF f v ((k,x)::r)=(if k=f then (k,v)::r else (k,x)::putF f v r) from rfl];by_cases hk:k=f
  .rw [if_pos hk];by_cases h:g=k
   .have hb:(g==k)=true:=beq_iff_eq.mpr h;simp only[List.lookup,hb,if_pos (h.trans hk)]
   .have hb:(g==k)=false:=beq_eq_false_iff_ne.mpr h;simp only[List.lookup,hb,if_neg (λe:g=f=>h (e.trans hk.symm))]
  .rw [if_neg hk];by_cases h:g=k
   .have hb:(g==k)=true:=beq_iff_eq.mpr h;simp only[List.lookup,hb,if_neg (λe:g=f=>hk (h.symm.trans e))]
   .have hb:(g==k)=false:=beq_eq_false_iff_ne.mpr h;simp only[List.lookup,hb];exact ih
theorem zD9 (f:Str)(v:V):∀ fs:List (Str×V),f∈(putF f v fs).map (·.1)/\∀ g,g∈fs.map (·.1)->g∈(putF f v fs).map (·.1)
 | []=>⟨by simp[putF],λg h=>by simp at h⟩
 | (k,x)::r=>by
  obtain⟨i1,i2⟩:=zD9 f v r;rw[show putF f v ((k,x)::r)=(if k=f then (k,v)::r else (k,x)::putF f v r) from rfl];by_cases hk:k=f
  .rw [if_pos hk];subst hk;exact⟨by simp,λg h=>by simpa using h⟩
  .rw [if_neg hk];refine⟨?_,λg h=>?_⟩
   .rw [map_cons];exact qY _ i1
   .rw [map_cons] at h ⊢;rcases mem_cons.mp h with e | e
    .exact mem_cons.mpr (.inl e)
    .exact qY _ (i2 g e)
theorem zD6 (f:Str)(v:V):∀ fs:List (Str×V),(putF f v fs).length<=fs.length+1
 | []=>by simp[putF]
 | (k,x)::r=>by
  have ih:=zD6 f v r;rw[show putF f v ((k,x)::r)=(if k=f then (k,v)::r else (k,x)::putF f v r) from rfl];by_cases hk:k=f
  .rw [if_pos hk,xY,xY];omega
  .rw [if_neg hk,xY,xY];omega
theorem RelO.some_of (r:RelO (some v) o):∃ u,o=some u/\RelV v u:=by
 cases o with
 | none=>exact r.elim
 | some u=>exact⟨u,rfl,r⟩
theorem RelO.none_of (r:RelO none o):o=none:=by
 cases o with
 | none=>rfl
 | some u=>exact r.elim
theorem zJv (r:RelV v u):W.handedIn u=true:=by
 cases v with
 | non=>cases r;rfl
 | bl b=>cases r;rfl
 | int i=>obtain⟨t,e⟩:=r;cases e;rfl
 | str x=>obtain⟨t,e⟩:=r;cases e;rfl
 | byt b=>obtain⟨t,e⟩:=r;cases e;rfl
 | flt b=>obtain⟨t,e⟩:=r;cases e;rfl
 | ref a=>cases r;rfl
 | ty n=>cases r;rfl
section
variable {P:Program}{w:World}{H H':Hp}{h h':Heap}{a C dx:Addr}{fs fs':List (Str×V)}
theorem zGv (hok:HOk P w H h)(e:H a=some (.ins C dx fs)):∃ mA,ObjM h a dx C mA/\(∀ f,RelO (fs.lookup f) (mA f))/\PySem.Within mA (fs.map (·.1))/\fs.length<=1000/\H dx=some (.own a):=by
 obtain⟨d,z,ne,ob,mA,n,r,q⟩:=hok a _ e;exact⟨mA,⟨ob,n,ne⟩,r,q,z,d⟩
end
structure Cls (K:W.Frag)(C:Addr):Prop where
 pg:W.plainGet K C Str.empty=true
 hd:W.hasDictIn K C=true
 po:W.plainOver K C=true
 sa:W.findIn K (.ref C) "__setattr__"=some (some (.builtin "object.__setattr__"))
theorem Cls.get {K:W.Frag}(c:Cls K C)(f:Str):W.plainGet K C f=true:=c.pg
def zBT (K:W.Frag)(C:Addr)(f:Str):Prop:=W.findIn K (.ref C) f=some none
theorem zBT.taker {K:W.Frag}(n:zBT K C f):W.takerIn K C f=some none:=by
 unfold W.takerIn;rw[show W.findIn K _ f=some none from n]
 rfl
structure Meth (K:W.Frag)(C:Addr)(m:Str)(f:Addr):Prop where
 at_:W.findIn K (.ref C) m=some (some (.ref f))
 fn:W.isFn K (.ref f)=true
 kp:W.keepIn K (.ref f)=true
section
variable {X:Cx}{pins:List (Addr×Obj)}{B:St}{H:Hp}{s:Shared}{a C dx:Addr}{fs:List (Str×V)}{f:Str}{v:V}{A:Around}{E:Value->Shared->Prop}
theorem zEs (I:Inv X pins B H s)(e:H a=some (.ins C dx fs))(c:Cls X.K C)(n:zBT X.K C f)(l:fs.lookup f=some v)
  (h:∀ u s',Inv X pins B H s'->RelV v u->Q u s'):wpAny (model X.prog X.w) A (getAttr (.ref a) f b) Q E s:=by
 obtain⟨mA,O,r,_,_,_⟩:=zGv I.hok e;obtain⟨u,hu,ru⟩:=RelO.some_of (by rw[<- l];exact r f);exact zOy I.kIn O (c.get f) c.hd n hu (zJv ru) (h u _ (I.tok _) ru)
theorem zEr (I:Inv X pins B H s)(e:H a=some (.ins C dx fs))(c:Cls X.K C)(k:Meth X.K C m g)(l:fs.lookup m=none)
  (h:Q (.ref g,[.ref a]) s):wpAny (model X.prog X.w) A (getMethod (.ref a) m pl) Q E s:=by
 obtain⟨mA,O,r,_,_,_⟩:=zGv I.hok e;exact zL6 I.kIn O (c.get m) k.at_ k.fn (RelO.none_of (by rw[<- l];exact r m)) h
theorem zEi (I:Inv X pins B H s)(e:H a=some (.ins C dx fs))(c:Cls X.K C)(n:zBT X.K C f)(hl:fs.length < 1000)(ry:RelV y u)
  (h:∀ s',Inv X pins B (upd H a (.ins C dx (putF f y fs))) s'->Q () s'):wpAny (model X.prog X.w) A (setAttr (.ref a) f u) Q E s:=by
 obtain⟨mA,O,r,wi,_,ho⟩:=zGv I.hok e;refine zNl I.kIn O c.sa c.po n.taker c.hd wi (by rw[List.length_map,sizeLine_eq];omega) λh' O' sb=>h _ ?_
 refine I.write (x:=a) (e:=dx) (by rw[e];exact True.intro) (.inr ho) (λb q hb z=>(sb.2 b hb).trans z) (let ⟨o,_,_,e',_⟩:=O'.ns;⟨o,e'⟩) ?_;refine⟨by rw[zAN O.ne];exact ho,?_,O.ne,O'.obj,_,O'.ns,λg=>?_,λg hg=>?_⟩
 .have:=zD6 f y fs;omega
 .show RelO ((putF f y fs).lookup g) (if g=f then some u else mA g);rw[zCR];by_cases q:g=f
  .rw [if_pos q,if_pos q];exact ry
  .rw [if_neg q,if_neg q];exact r g
 .by_cases q:g=f
  .rw [q];exact(zD9 f y fs).1
  .refine (zD9 f y fs).2 g (wi g λz=>hg ?_);grind
theorem Inv.made (I:Inv X pins B H s):Inv X pins B (upd (upd H s.heap.objs.size (.own (s.heap.objs.size+1))) (s.heap.objs.size+1) (.ins C s.heap.objs.size []))
  { s with heap:=(s.heap.push W.emptyDict).push (W.instObj C s.heap.objs.size) }:=by
 have e1:(s.heap.push W.emptyDict).get? s.heap.objs.size=some W.emptyDict:=get?_push_size s.heap rfl;have e2:((s.heap.push W.emptyDict).push (W.instObj C s.heap.objs.size)).get? (s.heap.objs.size+1)=some (W.instObj C s.heap.objs.size):=by
  have:=get?_push_size (s.heap.push W.emptyDict) (o:=W.instObj C s.heap.objs.size) rfl
  simp_all
 refine(I.laid (o:=.own (s.heap.objs.size+1)) (t':=s.toks) (λb u q=>get?_push_of_some _ q) (le_refl _) ⟨_,e1⟩).laid (λb u q=>get?_push_of_some _ q) (Nat.le_of_eq (Heap.size_push _ _)) ?_;have ne:s.heap.objs.size≠s.heap.objs.size+1:=ne_of_lt (Nat.lt_succ_self _);refine⟨by rw[zAN ne,zAX],zero_le _,ne,e2,λ_=>none,(Heap.Ns1.of_empty (⟨W.emptyDict,#[],_,e1,rfl,(λe he=>absurd he (by simp)),λ_=>rfl⟩)).at λo q=>get?_push_of_some _ q,λ_=>True.intro,λy hy=>absurd rfl hy⟩
theorem zPg (hb:attributeBase e f env (eval e env)=eval e env)
  (h:wpAny (model prog w) A (eval e env) (λo O3=>wpAny (model prog w) A (getAttr o f true) Q E O3) E s):wpAny (model prog w) A (eval (.Attribute e f pos) env) Q E s :=
 Attribute_any_ h (by rw[arm_eval_Attribute,hb])
end
def tFld (K:W.Frag)(ta:TE)(f:Str):TE:=λB H Q=>ta B H λx H1=>∃ a C dx fs v,x=.ref a/\H1 a=some (.ins C dx fs)/\Cls K C/\zBT K C f/\fs.lookup f=some v/\Q v H1
def sFld (K:W.Frag)(ta tv:TE)(f:Str):TS:=λD B H=>tv B H λy H1=>ta B H1 λx H2=>∃ a C dx fs,x=.ref a/\H2 a=some (.ins C dx fs)/\Cls K C/\zBT K C f/\fs.length < 1000 /\
 D.nx B (upd H2 a (.ins C dx (putF f y fs)))
def InOp (X:Cx)(op:Operator)(rd:V->V->Hp->VK->Prop):Prop :=
 ∀ (pins:List (Addr×Obj)) (s:Shared) (B:St) (H:Hp) (x y:V) (u v:Value) (Q:VK),Inv X pins B H s->RelV x u->RelV y v->rd x y H Q->wpAny (model X.prog X.w) X.A (inplaceOp op u v) (EP X pins B Q) X.xe s
def zNm (K:W.Frag)(ta tv:TE)(rd:V->V->Hp->VK->Prop)(f:Str):TS:=λD B H=>ta B H λx H1=>∃ a C dx fs v,x=.ref a/\H1 a=some (.ins C dx fs)/\Cls K C/\zBT K C f/\fs.lookup f=some v /\
 tv B H1 λy H2=>rd v y H2 λz H3=>∃ dx' fs',H3 a=some (.ins C dx' fs')/\fs'.length < 1000/\D.nx B (upd H3 a (.ins C dx' (putF f z fs')))
section
variable {X:Cx}{o e value:Expr}{f:Str}{pos pos' tpos:Pos}{ta tv:TE}
theorem zM3 (he:PE X e ta)(hb:attributeBase e f X.env (eval e X.env)=eval e X.env):PE X (.Attribute e f pos) (tFld X.K ta f):=by
 intro pins s B H Q I h;refine zPg hb (thn (he pins s B H _ I h) λu s1 zz29=>?_);obtain⟨x,H1,I1,rx,a,C,dx,fs,v,ex,ea,c,n,l,q⟩:=zz29;subst ex;obtain rfl:=rx;exact zEs I1 ea c n l λu' s2 I2 ru=>⟨v,H1,I2,ru,q⟩
theorem zQH (ha:PE X o ta)(hv:PE X value tv)(hs:swapsWith value (some (.Attribute o f pos')) pos.line X.env=pure false):PS X (.Assign [.Attribute o f pos'] value pos) (sFld X.K ta tv f):=by
 intro pins s B H D I h;refine plainObj_wpAny_Assign_Attribute (thn (hv pins s B H _ I h) λu s1 ⟨y,H1,I1,ry,q⟩=>thn (ha pins s1 B H1 _ I1 q) λov s2 zz30=>?_) hs;obtain⟨x,H2,I2,rx,a,C,dx,fs,ex,ea,c,n,l,q2⟩:=zz30;subst ex;obtain rfl:=rx;exact zEi I2 ea c n l ry λs3 I3=>⟨B,_,I3,q2⟩
theorem zI9 (ha:PE X o ta)(hv:PE X value tv)(hop:InOp X op rd):PS X (.AugAssign (.Attribute o f tpos) op value pos) (zNm X.K ta tv rd f):=by
 intro pins s B H D I h;refine wpAny_AugAssign_AttributeAny (thn (ha pins s B H _ I h) λov s1 zz31=>?_);obtain⟨x,H1,I1,rx,a,C,dx,fs,v,ex,ea,c,n,l,q⟩:=zz31;subst ex;obtain rfl:=rx;refine zEs I1 ea c n l λu s2 I2 ru=>thn (hv pins s2 B H1 _ I2 q) λw3 s3 ⟨y,H2,I3,ry,q3⟩=>thn (hop pins s3 B H2 v y u w3 _ I3 ru ry q3) λw4 s4 zz32=>?_
 obtain⟨z,H3,I4,rz,dx',fs',ea',l',q4⟩:=zz32;exact zEi I4 ea' c n l' rz λs5 I5=>⟨B,_,I5,q4⟩
def rAdd:V->V->Hp->VK->Prop:=λx y H Q=>∃ i j,x=.int i/\y=.int j/\Q (.int (i+j)) H
theorem zQ1:InOp X .Add rAdd:=by
 rintro pins s B H x y u v Q I rx ry ⟨i,j,rfl,rfl,q⟩;obtain⟨t,rfl⟩:=(show ∃ t,u=Value.int i t from rx);obtain⟨t',rfl⟩:=ry;exact PyProof.Rows.iadd_int ⟨.int (i+j),H,I.tok _,⟨_,rfl⟩,q⟩
end
section
variable {X:Cx}{pins:List (Addr×Obj)}{B:St}{H:Hp}{s:Shared}{A:Around}{E:Value->Shared->Prop}{Q:Value->Shared->Prop}{c:Value}{b:Bool}
inductive TyOf (K:W.Frag) (H:Hp):V->Value->Prop where
 | non:TyOf K H .non (.type "NoneType")
 | bl (x:Bool):TyOf K H (.bl x) (.type "bool")
 | int (i:Int):TyOf K H (.int i) (.type "int")
 | str (x:Str):TyOf K H (.str x) (.type "str")
 | flt (x:UInt64):TyOf K H (.flt x) (.type "float")
 | lst {a:Addr} {xs:List V} (e:H a=some (.lst xs)):TyOf K H (.ref a) (.type "list")
 | frz {a:Addr} {o:Obj} {xs:List V} (e:H a=some (.frz o (.lst xs))):TyOf K H (.ref a) (.type "list")
 | tup {a:Addr} {xs:List V} (e:H a=some (.tup xs)):TyOf K H (.ref a) (.type "tuple")
 | dK {a:Addr} {kvs:List (Key×V)} (e:H a=some (.dK kvs)):TyOf K H (.ref a) (.type "dict")
 | dT {a:Addr} {kvs:List (List Key×V)} (e:H a=some (.dT kvs)):TyOf K H (.ref a) (.type "dict")
 | ins {a C dx:Addr} {fs:List (Str×V)} (e:H a=some (.ins C dx fs)) (cl:Cls K C) (ha:W.findIn K (.ref C) "__class__"=some (some (.builtin "object.__class__")))
   (hn:W.specialIn K (.builtin "object.__class__") "__get__"=some (some (.builtin "getset_descriptor.__get__"))) (htk:W.takesIn K (.builtin "object.__class__")=some true)
   (hm:W.mroIn K C (.type "object")=some true):TyOf K H (.ref a) (.ref C)
end
structure Room (k:Nat)(A:Around):Prop where
 hd:A.handled=none
 dp:A.depth+3*k+105 < recursionLimit
 un:A.units+16*k+200 < cLine
theorem Room.mono (r:Room k A)(h:j<=k):Room j A:=⟨r.hd,by have:=r.dp;omega,by have:=r.un;omega⟩
theorem Room.deeper (r:Room (k+1) A)(env:Env):Room k (A.deeper env) :=
 ⟨r.hd,by have:=r.dp;show A.depth+1+3*k+105 < _;omega,by have:=r.un;show A.units+3+16*k+200 < _;omega⟩
theorem zIU {A:Around}:(A.under (.builtin "type.__call__" ⟨.ref C::us,kw⟩)).depth=A.depth+1:=rfl
theorem zIT {A:Around}:(A.under (.builtin "type.__call__" ⟨.ref C::us,kw⟩)).units=A.units+1:=rfl
theorem Room.make (r:Room (k+1) A)(C:Addr)(us:List Value)(kw:List (Str×Value)):Room k (A.under (.builtin "type.__call__" ⟨.ref C::us,kw⟩)) :=
 ⟨r.hd,by have:=r.dp;rw[zIU];omega,by have:=r.un;rw[zIT];omega⟩
theorem Room.depth (r:Room k A):A.depth < recursionLimit:=by have:=r.dp;omega
theorem Room.units (r:Room k A):A.units+64 < cLine:=by have:=r.un;omega
def tNil:TA:=λ_ H Q=>Q [] H
def zP0 (ta:TE)(tr:TA):TA:=λB H Q=>ta B H λx H1=>tr B H1 λxs H2=>Q (x::xs) H2
section
variable {X:Cx}{e:Expr}{es:List Expr}{te:TE}{t:TA}{pos:Pos}
theorem zA2:PA X [] tNil:=λ_ _ _ _ H Q I h=>Calls.spliced_nil ⟨[],H,I,.nil,h⟩
theorem zAa (ha:PE X e te)(hr:PA X es t)(hs:starEach (e::es) X.env=(false,eval e X.env)::starEach es X.env:=by rfl):PA X (e::es) (zP0 te t):=by
 intro pos pins s B H Q I h;rw[hs];show wpAny _ _ (spliced ((false,eval e X.env)::backTo pos (starEach es X.env))) _ _ s;refine Calls.spliced_cons (thn (ha pins s B H _ I h) λu s1 zz33=>?_);obtain⟨x,H1,I1,r1,q1⟩:=zz33;exact thn (hr pos pins s1 B H1 _ I1 q1) λus s2 zy149=>by obtain⟨xs,H2,I2,r2,q2⟩:=zy149;exact⟨x::xs,H2,I2,.cons r1 r2,q2⟩
def tTup (t:TA):TE:=λB H Q=>t B H λxs H1=>xs.length<=sizeLine/\∀ p,H1 p=none->Q (.ref p) (upd H1 p (.tup xs))
def tLst (t:TA):TE:=λB H Q=>t B H λxs H1=>xs.length<=sizeLine/\∀ p,H1 p=none->Q (.ref p) (upd H1 p (.lst xs))
theorem zM1 {x1}(h:PA X es t):PE X (.Tuple es x1 pos) (tTup t):=by
 intro pins s B H Q I hq;refine wpAny_Tuple_spliced (thn (h pos pins s B H _ I hq) λus s1 ⟨xs,H1,I1,r,z,q⟩=>⟨by rw[<- r.length];exact z,?_⟩);refine⟨.ref s1.heap.objs.size,upd H1 s1.heap.objs.size _,I1.laid (λb u e=>get?_push_of_some _ e) (le_refl _) ?_,rfl,q _ (I1.hok.fresh (le_refl _))⟩;exact⟨z,us,r,⟨_,get?_push_size _ rfl,rfl,_,rfl⟩⟩
theorem zM2 (h:PA X es t):PE X (.List es pos) (tLst t):=by
 intro pins s B H Q I hq;refine wpAny_List_spliced (thn (h pos pins s B H _ I hq) λus s1 ⟨xs,H1,I1,r,z,q⟩=>⟨by rw[<- r.length];exact z,?_⟩);refine⟨.ref s1.heap.objs.size,upd H1 s1.heap.objs.size _,I1.laid (λb u e=>get?_push_of_some _ e) (le_refl _) ?_,rfl,q _ (I1.hok.fresh (le_refl _))⟩;exact⟨z,us,0,r,get?_push_size _ rfl⟩
end
abbrev Sp:=List V->Hp->VK->XK->Prop
abbrev CXT:=List Env->Hp->Shared->XK->Value->Shared->Prop
structure Env0 (P:Program)(w:World)(K:W.Frag)(mg:Str->Option Value)(base:Heap)(A:Around)(outer:List Env)(s:Shared)(H:Hp):Prop where
 frames:A.frames=some outer
 mod:Mod K mg base
 bs:∀ b o,base.get? b=some o->s.heap.get? b=some o/\H b=none
 bsz:base.objs.size<=s.heap.objs.size
 funs:s.heap.FunFrames base outer
 frf:∀ b∈frs outer,H b=none
 hok:HOk P w H s.heap
 bare:AllBare s.gens
 tree:(model P w).prog.given.tree=none
 tabs:zH8 K H
def CE (outer:List Env)(P:Program)(w:World)(H:Hp)(s:Shared)(Q:VK)(u:Value)(s':Shared):Prop :=
 ∃ v H',s'.os=s.os/\AllBare s'.gens/\Un (frs outer) [] H H' s.heap s'.heap/\HOk P w H' s'.heap/\RelV v u/\Q v H'
def CR (CX:CXT)(outer:List Env)(P:Program)(w:World)(H:Hp)(s:Shared)(Q:VK)(E:XK)(r:Result)(s':Shared):Prop :=
 match r with
 | .ok (.ret u)=>CE outer P w H s Q u s'
 | .ok _=>False
 | .error e=>CX outer H s E e s'
structure FnOk (P:Program)(w:World)(K:W.Frag)(mg:Str->Option Value)(base:Heap)(CX:CXT)(k:Nat)(f:Addr)(fd:FuncData)(ps:List Str)(sp:Sp):Prop where
 len:∀ vs H Q E,sp vs H Q E->vs.length=ps.length
 run:∀ (A:Around) (outer:List Env) (s:Shared) (H:Hp) (args:Args) (us:List Value) (vs:List V) (Q:VK) (E:XK),Room k A->Env0 P w K mg base A outer s H->BindsTo s fd args (ps.zip us)->Vals vs us->sp vs H Q E ->
  codeAny (model P w) A (.call (.ref f) args) (CR CX outer P w H s Q E) s
theorem FnOk.mono {K:W.Frag}(F:FnOk P w K mg base CX j f fd ps sp)(h:j<=k) :
  FnOk P w K mg base CX k f fd ps sp:=⟨F.len,λA outer s H args us vs Q E hr=>F.run A outer s H args us vs Q E (hr.mono h)⟩
theorem Env0.make {K:W.Frag}(e:Env0 P w K mg base A outer s H)(C:Addr)(us:List Value)(kw:List (Str×Value)) :
  Env0 P w K mg base (A.under (.builtin "type.__call__" ⟨.ref C::us,kw⟩)) outer s H:=⟨by first | exact e.frames | simpa using e.frames,e.mod,e.bs,e.bsz,e.funs,e.frf,e.hok,e.bare,e.tree,e.tabs⟩
section
variable {X:Cx}{pins:List (Addr×Obj)}{B:St}{H:Hp}{s s':Shared}
theorem Inv.env0 (I:Inv X pins B H s):Env0 X.prog X.w X.K X.mg X.base X.A X.stack s H :=
 ⟨I.ok.frames,I.ok.mod,I.bs,le_trans I.ok.bsz I.sz,I.stack,I.stkFree,I.hok,I.bare,I.ok.pyl.2.1,I.tabs⟩
theorem Inv.after (I:Inv X pins B H s)(h:CE X.stack X.prog X.w H s Q u s'):EP X pins B Q u s':=by
 obtain⟨v,H',os,bare,un,hok,r,q⟩:=h;obtain⟨hh,g,d,t,os'⟩:=s'
 simp_all
 exact⟨v,H',I.call un hok bare λb z=>absurd z (by simp),r,q⟩
end
def zK9 (sp:Sp)(dvs:List V)(E:XK)(t:TA):TE:=λB H Q=>t B H λvs H1=>sp (vs++dvs) H1 Q E
def zPx (C:Addr)(m:Str)(sp:Sp)(dvs:List V)(E:XK)(ta:TE)(t:TA):TE:=λB H Q=>ta B H λx H1=>∃ a dx fs,x=.ref a/\H1 a=some (.ins C dx fs)/\fs.lookup m=none /\
 t B H1 λvs H2=>sp (x::(vs++dvs)) H2 Q E
def zBb (K:W.Frag)(fd:FuncData)(ps:List Str)(ds:List Value):Prop :=
 ∀ (s:Shared) (us:List Value),K.In s.heap->(us++ds).length=ps.length->BindsTo s fd ⟨us,[]⟩ (ps.zip (us++ds))
theorem zBb.all {K:W.Frag}(h:∀ us:List Value,us.length=ps.length->bindArgs fd ⟨us,[]⟩=pure (ps.zip us)):zBb K fd ps []:=λs us _ hl=>by
 simp_all
 exact .of_eq (h us hl)
def zE2 (CX:CXT)(X:Cx)(E:XK):Prop:=∀ (pins:List (Addr×Obj)) (B:St) (H:Hp) (s:Shared) (e:Value) (s':Shared),Inv X pins B H s->CX X.stack H s E e s'->X.xe e s'
section
variable {X:Cx}{CX:CXT}{k:Nat}{f C:Addr}{fd:FuncData}{ps:List Str}{sp:Sp}{dvs:List V}{ds:List Value}{E:XK}{x m:Str}{p pos apos:Pos}{e o:Expr}{es:List Expr}{ta:TE}{t:TA}
theorem zFu {pins:List (Addr×Obj)}{B:St}{H:Hp}{s:Shared}{Q:VK}{us:List Value}{vs:List V}(F:FnOk X.prog X.w X.K X.mg X.base CX k f fd ps sp)(hr:Room k X.A)(hb:zBb X.K fd ps ds)(hd:Vals dvs ds)(hx:zE2 CX X E)
  (I:Inv X pins B H s) (r:Vals vs us) (h:sp (vs++dvs) H Q E):wpAny (model X.prog X.w) X.A (call (.ref f) us) (EP X pins B Q) X.xe s:=by
 have r2:=r.append hd;refine wpAny_call (codeAny_mono (F.run X.A X.stack s H _ _ _ Q E hr I.env0 (hb s us I.kIn (by rw[<- r2.length];exact F.len _ _ _ _ h)) r2 h) λr s' hq=>?_);cases r with
 | error e=>exact hx pins B H s e s' I hq
 | ok fl =>
  cases fl with
  | ret u=>exact I.after hq
  | next=>exact False.elim hq
  | brk=>exact False.elim hq
  | cont=>exact False.elim hq
theorem zJE (F:FnOk X.prog X.w X.K X.mg X.base CX k f fd ps sp)(hr:Room k X.A)(hg:Gl X x)(hm:X.mg x=some (.ref f))(hk:W.keepIn X.K (.ref f)=true)(hb:zBb X.K fd ps ds)(hd:Vals dvs ds)(hx:zE2 CX X E)
  (ha:PA X (e::es) t) (hdb:(x==("__debug__":Str))=false:=by decide) (he:starEach (e::es) X.env=(false,eval e X.env)::starEach es X.env:=by rfl) (hpl:(backTo pos (starEach es X.env)).any (·.1)=false:=by rfl) :
  PE X (.Call (.Name x p) (e::es) [] pos) (zK9 sp dvs E t):=by
 intro pins s B H Q I h;refine wpAny_Call_Name_kw (zD8 I hg hm ?_ hdb);refine W.callWith_K (h₀:=X.base) I.ok.mod.kin hk (thn (ha pos pins s B H _ I h) λus s1 ⟨vs,H1,I1,r,q⟩=>⟨I1.kIn,?_⟩) he hpl;exact zFu F hr hb hd hx I1 r q
theorem zLR (F:FnOk X.prog X.w X.K X.mg X.base CX k f fd ps sp)(hr:Room k X.A)(hg:Gl X x)(hm:X.mg x=some (.ref f))(hk:W.keepIn X.K (.ref f)=true)(hb:zBb X.K fd ps ds)(hd:Vals dvs ds)(hx:zE2 CX X E)
  (hdb:(x==("__debug__":Str))=false:=by decide):PE X (.Call (.Name x p) [] [] pos) (zK9 sp dvs E tNil):=by
 intro pins s B H Q I h;refine wpAny_Call_Name_kw (zD8 I hg hm ?_ hdb);exact W.callWith_K0 I.kIn hk (zFu (us:=[]) F hr hb hd hx I .nil h)
theorem zNz {pl:Sem Bool}(he:PE X o ta)(c:Cls X.K C)(hm:Meth X.K C m f)(F:FnOk X.prog X.w X.K X.mg X.base CX k f fd ps sp)(hr:Room k X.A)(hb:zBb X.K fd ps ds)(hd:Vals dvs ds)(hx:zE2 CX X E)(ha:PA X (e::es) t)
  (hst:starEach (e::es) X.env=(false,eval e X.env)::starEach es X.env:=by rfl) (hpl:(backTo pos (starEach es X.env)).any (·.1)=false:=by rfl)
  (ht:eval (.Call (.Attribute o m apos) (e::es) [] pos) X.env=(do
   let ov<-eval o X.env
   standAt apos.atName
   let (f,first)<-holding [ov] (getMethod ov m pl)
   callWith pos f first (backTo pos (starEach (e::es) X.env)) (backToKw pos (keywordEach [] X.env))):=by rfl) :
  PE X (.Call (.Attribute o m apos) (e::es) [] pos) (zPx C m sp dvs E ta t):=by
 intro pins s B H Q I h;refine W.methodCall_KW (pl:=pl) (thn (he pins s B H _ I h) λu s1 zz34=>?_) ht;obtain⟨x,H1,I1,rx,a,dx,fs,ex,ea,l,q⟩:=zz34;subst ex;obtain rfl:u=Value.ref a:=rx;refine zEr I1 ea c hm l ?_;refine W.callWith_K (first:=[.ref a]) (h₀:=X.base) I.ok.mod.kin hm.kp (thn (ha pos pins s1 B H1 _ I1 q) λus s2 ⟨vs,H2,I2,r,q2⟩=>⟨I2.kIn,?_⟩) hst hpl;exact zFu (us:=.ref a::us) (vs:=.ref a::vs) F hr hb hd hx I2 (.cons rfl r) q2
theorem zLM {pl:Sem Bool}(he:PE X o ta)(c:Cls X.K C)(hm:Meth X.K C m f)(F:FnOk X.prog X.w X.K X.mg X.base CX k f fd ps sp)(hr:Room k X.A)(hb:zBb X.K fd ps ds)(hd:Vals dvs ds)(hx:zE2 CX X E)
  (ht:eval (.Call (.Attribute o m apos) [] [] pos) X.env=(do
   let ov<-eval o X.env
   standAt apos.atName
   let (f,first)<-holding [ov] (getMethod ov m pl)
   callWith pos f first (backTo pos (starEach [] X.env)) (backToKw pos (keywordEach [] X.env))):=by rfl) :
  PE X (.Call (.Attribute o m apos) [] [] pos) (zPx C m sp dvs E ta tNil):=by
 intro pins s B H Q I h;refine W.methodCall_KW (pl:=pl) (thn (he pins s B H _ I h) λu s1 zz35=>?_) ht;obtain⟨x,H1,I1,rx,a,dx,fs,ex,ea,l,q⟩:=zz35;subst ex;obtain rfl:u=Value.ref a:=rx;refine zEr I1 ea c hm l ?_;exact W.callWith_K0 (first:=[.ref a]) I1.kIn hm.kp (zFu (us:=[.ref a]) (vs:=[.ref a]) F hr hb hd hx I1 (.cons rfl .nil) q)
structure Mk (K:W.Frag)(C f:Addr):Prop where
 makes:W.makesIn K C=true
 init:W.findIn K (.ref C) "__init__"=some (some (.ref f))
 fn:W.isFn K (.ref f)=true
 kp:W.keepIn K (.ref C)=true
end
structure zAq (N P:List Str)(sc:Scope):Prop where
 kind:sc.kind=.function
 co:sc.isCoroutine=false
 gen:sc.isGenerator=false
 nd:N.Nodup
 pre:N.take P.length=P
 par:∀ x∈P,sc.names.lookup x=some .local\/sc.names.lookup x=some .cell
 nofree:∀ y∈sc.names,y.2≠.free
theorem zGP {kindOf:Str->Option NameKind}:∀ {binds:List (Str×Value)} {m:Str->Option Value},(∀ v,(x,v)∉binds)->bindL kindOf binds m x=m x
 | [],_,_=>rfl
 | (n,v)::r,m,h=>by
  unfold bindL;rw[zGP λw hw=>h w (qY _ hw)];split
  .have:x≠n:=by rintro rfl;exact h v q8
   simp[this]
  .rfl
theorem zGR {kindOf:Str->Option NameKind}:∀ {binds:List (Str×Value)} {m:Str->Option Value},(∀ v,(x,v)∉binds)->bindC kindOf binds m x=m x
 | [],_,_=>rfl
 | (n,v)::r,m,h=>by
  unfold bindC;rw[zGR λw hw=>h w (qY _ hw)];split
  .rfl
  .have:x≠n:=by rintro rfl;exact h v q8
   simp[this]
theorem zGQ {kindOf:Str->Option NameKind}:∀ {P:List Str} {vs:List Value} {i:Nat} {m:Str->Option Value},P.Nodup->P[i]?=some x->vs[i]?=some v->kindOf x=some .local ->
  bindL kindOf (P.zip vs) m x=some v
 | [],_,_,_,_,h,_,_=>by simp at h
 | _::_,[],_,_,_,_,h,_=>by simp at h
 | p::P,w::vs,0,m,nd,h1,h2,hk=>by
  simp at h1 h2;subst h1;subst h2;show bindL kindOf ((p,w)::P.zip vs) m p=_;unfold bindL;rw[zGP λv hv=>(nodup_cons.mp nd).1 (of_mem_zip hv).1,if_pos hk];simp
 | p::P,w::vs,i+1,m,nd,h1,h2,hk=>by
  show bindL kindOf ((p,w)::P.zip vs) m x=_;unfold bindL;exact zGQ (i:=i) (nodup_cons.mp nd).2 (by simpa using h1) (by simpa using h2) hk
theorem zGS {kindOf:Str->Option NameKind}:∀ {P:List Str} {vs:List Value} {i:Nat} {m:Str->Option Value},P.Nodup->P[i]?=some x->vs[i]?=some v->kindOf x≠some .local ->
  bindC kindOf (P.zip vs) m x=some v
 | [],_,_,_,_,h,_,_=>by simp at h
 | _::_,[],_,_,_,_,h,_=>by simp at h
 | p::P,w::vs,0,m,nd,h1,h2,hk=>by
  simp at h1 h2;subst h1;subst h2;show bindC kindOf ((p,w)::P.zip vs) m p=_;unfold bindC;rw[zGR λv hv=>(nodup_cons.mp nd).1 (of_mem_zip hv).1,if_neg hk];simp
 | p::P,w::vs,i+1,m,nd,h1,h2,hk=>by
  show bindC kindOf ((p,w)::P.zip vs) m x=_;unfold bindC;exact zGS (i:=i) (nodup_cons.mp nd).2 (by simpa using h1) (by simpa using h2) hk
noncomputable def zCL (N:List Str)(vs:List V):St:=vs.map some++List.replicate (N.length - vs.length) none
noncomputable def cxOf (CX:CXT)(P:Program)(w:World)(K:W.Frag)(mg:Str->Option Value)(base:Heap)(N:List Str)(qual:Str)(scope:Scope)(f:Addr)(cd:Value)(A:Around)(outer:List Env)(s:Shared)(H:Hp)(E:XK):Cx where
 prog:=P
 w:=w
 K:=K
 mg:=mg
 base:=base
 A:=A.deeper (envOfC qual scope s.heap.objs.size f cd)
 N:=N
 s0:=s
 Y7:=H
 env:=envOfC qual scope s.heap.objs.size f cd
 outer:=outer
 stack:=envOfC qual scope s.heap.objs.size f cd::outer
 ex:=[]
 calm:=true
 fn:=λ_=>true
 pn:=[]
 xe:=λe s'=>wpAny (model P w) (A.deeper (envOfC qual scope s.heap.objs.size f cd)) (leaving (envOfC qual scope s.heap.objs.size f cd) e) (λ_ s''=>CX outer H s E e s'') (λe' s''=>CX outer H s E e' s'') s'
theorem zH3 {sc:Scope}(h:sc.names.lookup x=some .cell):∃ c,(cellsFrom n sc.names []).lookup x=some c:=Option.isSome_iff_exists.mp (W.cellsFrom_some sc.names n [] (.inl h))
theorem zGD {K:W.Frag}
  (S:zAq N ps scope) (hd:A.handled=none) (hdp:A.depth+1+Builtin.pylongFrames < recursionLimit) (e0:Env0 P w K mg base A outer s H) (hl:vs.length=ps.length) (r:Vals vs us)
  (x:InCallC s s.heap.objs.size (bindL (envOfC qual scope s.heap.objs.size f cd).kindOf (ps.zip us) λ_=>none) (cellsFrom (s.heap.objs.size+1) scope.names []) (bindC (envOfC qual scope s.heap.objs.size f cd).kindOf (ps.zip us) λ_=>none) s1) :
  Inv (cxOf CX P w K mg base N qual scope f cd A outer s H E) [] (zCL N vs) H s1:=by
 have hpl:ps.length<=N.length:=by have:=congrArg List.length S.pre;rw[length_take] at this;omega
 obtain⟨h1,tk,rfl,hk⟩:=x.done;have noA:∀ b:Addr,b∉(cxOf CX P w K mg base N qual scope f cd A outer s H E).ex:=λb z=>absurd (show b∈([]:List Addr) from z) (by simp)
 refine⟨⟨e0.mod,S.kind,rfl,rfl,le_refl _,λy z c h1 h2=>?_,λy hy=>?_,λy c _ h=>?_,λ_=>hd,Around.frames_deeper e0.frames,.inr ⟨rfl,rfl⟩,λb z=>absurd z (noA b),e0.bs,e0.bsz,λb _ _=>noA b,λb z=>absurd z (noA b),e0.funs,e0.frf,⟨hdp,e0.tree,_,_,rfl,S.gen,S.co,rfl,rfl⟩,e0.tabs⟩,
  rfl,e0.bare,Un.kept hk,⟨_,x.toInCall.ns,λi y v h1 h2 h3=>?_⟩,λy c h=>⟨_,x.cell y c h⟩,e0.hok.fresh (le_refl _),λy c h=>?_,λp hp=>absurd (show p∈([]:List (Addr×Obj)) from hp) (by simp),e0.hok.kept hk,?_⟩
 .exact name_of_addr x.apart (PySem.mem_of_lookup h1) (PySem.mem_of_lookup h2)
 .have hy:=hy;rcases hy with hy | hy
  .exact zH3 hy
  .exact absurd rfl (S.nofree _ (PySem.mem_of_lookup hy))
 .exact Nat.le_of_lt (x.above y c (PySem.mem_of_lookup h))
 .have hi:i < vs.length:=by
   unfold zCL at h2;by_cases hi:i < vs.length
   .exact hi
   .rw [getElem?_append_right (by simpa using hi)] at h2;rw[getElem?_replicate] at h2;split at h2<;>cases h2
  have ha:vs[i]?=some v:=by
   unfold zCL at h2;rw[getElem?_append_left (by simpa using hi),getElem?_map] at h2
   simp_all
  obtain⟨u,hu,rv⟩:=r.get ha;have hp:ps[i]?=some y:=by
   rw[<- S.pre,List.getElem?_take_of_lt (by omega)];exact h1
  have ndP:ps.Nodup:=by rw[<- S.pre];exact S.nd.sublist (List.take_sublist _ _)
  refine⟨u,rv,?_⟩;rcases S.par y (mem_of_getElem? hp) with k | k
  .exact .inl ⟨k,zGQ ndP hp hu k⟩
  .obtain ⟨c,e⟩:=zH3 (n:=s.heap.objs.size+1) k;refine .inr ⟨.inl k,c,e,?_⟩;have q:=x.cell y c e;rw[zGS ndP hp hu (by show scope.names.lookup y≠_;rw[k];decide)] at q;exact q
 .exact e0.hok.fresh (Nat.le_of_lt (x.above y c (PySem.mem_of_lookup h)))
 .unfold zCL;show _=N.length;rw[qj,List.length_map,length_replicate];omega
theorem zRm {K:W.Frag}{kV:Value}
     (lk:K.lookup f=some ⟨oc,od,.func (W.fnOf name qual params body scope dV kV doc pm an cdv ct),osl⟩) (hcd:W.codeIn K cdv qual=true) (S:zAq N ps scope)
  (len:∀ vs H Q E,sp vs H Q E->vs.length=ps.length)
  (hbody:∀ (A:Around) (outer:List Env) (s:Shared) (H:Hp) (vs:List V) (Q:VK) (E:XK),Room k (A.deeper (envOfC qual scope s.heap.objs.size f cdv))->sp vs H Q E ->
   ∃ t,PSs (cxOf CX P w K mg base N qual scope f cdv A outer s H E) body t/\t { nx:=λ_ H'=>Q .non H',rt:=Q } (zCL N vs) H) :
  FnOk P w K mg base CX (k+1) f (W.fnOf name qual params body scope dV kV doc pm an cdv ct) ps sp:=by
 refine⟨len,λA outer s H args us vs Q E hr e0 hb r hsp=>?_⟩;have hl:=len _ _ _ _ hsp;have KX:K.In s.heap:=e0.mod.kin.keeps λb o e=>(e0.bs b o e).1
 have hkind:∀ y∈ps.zip us,scope.names.lookup y.1=some .local\/(scope.names.lookup y.1=some .cell/\((cellsFrom (s.heap.objs.size+1) scope.names []).lookup y.1).isSome=true):=λzz36 hy=>by
  obtain⟨n,v⟩:=zz36;rcases S.par n (of_mem_zip hy).1 with q | q
  .exact .inl q
  .exact .inr ⟨q,W.cellsFrom_some _ _ _ (.inl q)⟩
 refine codeAny_call_function hr.depth (KX _ _ lk) rfl S.co S.gen rfl (W.codeRec_of KX hcd) (hb _ _ _ _ ?_);refine wpAny_newFunctionEnv_cells S.kind hkind λenv he s1 x=>?_
 subst he;refine⟨(e0.mod.nolimit.keeps λb o e=>(e0.bs b o e).1).keeps x.toInCall.keep,codeAny_func ?_⟩;obtain⟨t,ht,hq⟩:=hbody A outer s H vs Q E (hr.deeper _) hsp;refine wpAny_mono (ht [] s1 (zCL N vs) H _ (zGD S hr.hd (by have:=hr.dp;show A.depth+1+100 < _;omega) e0 hl r x) hq) (λfl s' hs=>?_) λe s' hs=>hs
 have fin:∀ {O1:St} {H':Hp} {v:V} {u:Value},Inv (cxOf CX P w K mg base N qual scope f cdv A outer s H E) [] O1 H' s'->RelV v u->Q v H'->CE outer P w H s Q u s' :=
  λ{O1 H' v u} J rv q=>⟨v,H',J.os,J.bare,J.base,J.hok,rv,q⟩
 cases fl with
 | ret u =>
  obtain⟨v,O1,H',J,rv,q⟩:=hs;exact fin J rv q
 | next =>
  obtain⟨O1,H',J,q⟩:=hs;exact fin (v:=V.non) (u:=Value.none) J rfl q
 | brk =>
  obtain⟨_,_,_,q⟩:=hs;exact False.elim q
 | cont =>
  obtain⟨_,_,_,q⟩:=hs;exact False.elim q
section
variable {X:Cx}{x:Str}{p pos:Pos}{e:Expr}{es:List Expr}{t:TA}{id T:String}{r:List V->Hp->VK->Prop}
def tCB (r:List V->Hp->VK->Prop)(t:TA):TE:=λB H Q=>t B H λvs H1=>r vs H1 Q
theorem zDr (hc:zEV X (.builtin id) r)(hg:Gl X x)(hm:X.mg x=none)(hv:bootBuiltins x=some (.builtin id))(ha:PA X (e::es) t)(hn:x ≠ "__name__":=by decide)(hdb:(x==("__debug__":Str))=false:=by decide)
  (he:starEach (e::es) X.env=(false,eval e X.env)::starEach es X.env:=by rfl) (hpl:(backTo pos (starEach es X.env)).any (·.1)=false:=by rfl):PE X (.Call (.Name x p) (e::es) [] pos) (tCB r t):=by
 intro pins s B H Q I h;refine wpAny_Call_Name_kw (zC7 I hg hm hv ?_ hn hdb);exact PyProof.Rows.callWith_builtin1 (thn (ha pos pins s B H _ I h) λus s1 zy150=>by obtain⟨vs,H1,I1,r1,q1⟩:=zy150;exact hc pins s1 B H1 vs us Q I1 r1 q1) he hpl
theorem zFy (hc:zEV X (.type T) r)(hg:Gl X x)(hm:X.mg x=none)(hv:bootBuiltins x=some (.type T))(ha:PA X (e::es) t)(hn:x ≠ "__name__":=by decide)(hdb:(x==("__debug__":Str))=false:=by decide)
  (he:starEach (e::es) X.env=(false,eval e X.env)::starEach es X.env:=by rfl) (hpl:(backTo pos (starEach es X.env)).any (·.1)=false:=by rfl):PE X (.Call (.Name x p) (e::es) [] pos) (tCB r t):=by
 intro pins s B H Q I h;refine wpAny_Call_Name_kw (zC7 I hg hm hv ?_ hn hdb);exact PyProof.Rows.callWith_type1 (thn (ha pos pins s B H _ I h) λus s1 zy151=>by obtain⟨vs,H1,I1,r1,q1⟩:=zy151;exact hc pins s1 B H1 vs us Q I1 r1 q1) he hpl
end
end L2
namespace HT
open PySem PyProof.Rows
section
open PySem.SeqAt
open PySem.AutoSeq1 (wpAny_loadPart')
open PySem.MeetsSeq PySem.MeetsSeq2 PySem.MeetsSeq3
end
section
variable {prog:Program}{w:World}{A:Around}{E:Value->Shared->Prop}{s:Shared}
theorem zPb (ht:IsTup s.heap t vs.toArray)(hb:IsTup s.heap b ws.toArray)(hv:vs≠[])
  (h1:ws=[]->Q (.ref t) s) (h2:ws≠[]->Q (.ref s.heap.objs.size) { s with heap:=s.heap.push { cls:=.type "tuple",data:=.seq (vs++ws).toArray } })
  (hsz:vs.length+ws.length<=sizeLine):wpAny (model prog w) A (binaryOp .Add (.ref t) (.ref b)) Q E s:=by
 obtain⟨⟨cls,dd,data,sl⟩,ho,hc,n,hd⟩:=id ht;obtain⟨⟨cls2,dd2,data2,sl2⟩,ho2,hc2,n2,hd2⟩:=id hb;subst hc hd hc2 hd2;by_cases hw:ws=[]
 .exact concat_meets ⟨_,ho,rfl⟩ ⟨_,ho2,rfl⟩ noFill_tuple_add seq_tuple_add PySem.F.slot_tuple_add PySem.F.entry_tuple_add (PySem.F.args_tuple_add_2 _ _)
   (tuple_addW1 t b vs.toArray ws.toArray n n2 dd dd2 sl sl2 (by simpa using hv) (by simp[hw])) ⟨ho,ho2,h1 hw⟩
 .refine concat_meets ⟨_,ho,rfl⟩ ⟨_,ho2,rfl⟩ noFill_tuple_add seq_tuple_add PySem.F.slot_tuple_add PySem.F.entry_tuple_add (PySem.F.args_tuple_add_2 _ _)
   (tuple_addW2 t b vs.toArray ws.toArray n n2 dd dd2 sl sl2 (by simpa using hv) (by simpa using hw) (by omega)) ⟨ho,ho2,?_⟩
  simp_all
noncomputable def sIx (n d:Nat):Option Int->Nat
 | none=>d
 | some v=>if v < 0 then (v+(n:Int)).toNat else min v.toNat n
theorem zP7 (n d:Nat)(hd:d<=n)(o:Option Int):sIx n d o<=n:=by
 cases o with
 | none=>exact hd
 | some v =>
  show (if v < 0 then (v+_).toNat else min v.toNat n)<=n;grind
theorem zKr (v:Int)(n d:Nat):(if v < 0 then max (v+(n:Int)) 0 else min v (n:Int))=((sIx n d (some v):Nat):Int):=by
 show _=((if v < 0 then (v+_).toNat else min v.toNat n:Nat):Int);grind
theorem zIk (lo hi:Option Int)(n:Nat):Builtin.Slice.sliceAdjust lo hi 1 (n:Int)=(((sIx n 0 lo:Nat):Int),((sIx n n hi:Nat):Int)):=by
 refine Prod.ext ?_ ?_
 .cases lo with
  | none=>rfl
  | some v=>exact zKr v n 0
 .cases hi with
  | none=>rfl
  | some v=>exact zKr v n n
theorem zII (i j:Nat):Builtin.Slice.slicePlaces (i:Int) (j:Int) 1=j - i:=by
 unfold Builtin.Slice.slicePlaces;grind
theorem zEh (p:IsPart v o)(h:Q o s):wpAny (model prog w) A (Builtin.Slice.slicePartIndex v) Q E s:=by
 cases p with
 | none=>exact slicePart_none h
 | int i t=>exact slicePart_int h
theorem zDh {lo hi:Option Int}{n:Nat}{Q:Int×Int×Nat->Shared->Prop}(hs:s.heap.IsSliceOf sl vl vu .none)(pl:IsPart vl lo)(pu:IsPart vu hi)
  (h:Q (((sIx n 0 lo:Nat):Int),1,sIx n n hi - sIx n 0 lo) s):wpAny (model prog w) A (Builtin.Slice.sliceApplied (.ref sl) (pure (n:Int))) Q E s:=by
 obtain⟨os,hos,hcs,hds⟩:=id hs;refine qQ (qQ (wpAny_field hos hds (x:=vl) rfl (qQ (wpAny_field hos hds (x:=vu) rfl (qQ (wpAny_field hos hds (x:=.none) rfl (q9 ?_)))))));refine qQ (slicePart_none ?_);refine qQ (zEh pl (qQ (zEh pu (qQ (q9 ?_)))));simp;rw[zIk lo hi n];simp;rw[zII];exact q9 h
theorem zLK (xs:Array Value)(i k:Nat):((List.range k).filterMap λ(m:Nat)=>xs[((i:Int)+(m:Int)*1).toNat]?).toArray=((xs.toList.drop i).take k).toArray:=by
 have e:(λ(m:Nat)=>xs[((i:Int)+(m:Int)*1).toNat]?)=λm=>xs[i+m]?:=by
  funext m;have:((i:Int)+(m:Int)*1).toNat=i+m:=by omega
  rw[this]
 rw[e];have:=pick_run xs i k;rw[List.filterMap_map] at this;have e2:((λx=>xs[x]?)∘λx=>i+x)=λm=>xs[i+m]?:=rfl
 rw[e2] at this;rw[this]
theorem zDY {lo:Option Int}(ht:IsTup s.heap t items)(hs:s.heap.IsSliceOf sl vl vu .none)(pl:IsPart vl lo)(pu:IsPart vu hi)
  (hw:¬ (sIx items.size 0 lo=0/\sIx items.size items.size hi=items.size))
  (h:Q (.ref s.heap.objs.size) { s with heap:=s.heap.push { cls:=.type "tuple",data:=.seq ((items.toList.drop (sIx items.size 0 lo)).take (sIx items.size items.size hi - sIx items.size 0 lo)).toArray } })
  (hsz:items.size<=sizeLine):wpAny (model prog w) A (getItem (.ref t) (.ref sl)) Q E s:=by
 have htake:sizeOk (.seq ((items.toList.drop (sIx items.size 0 lo)).take (sIx items.size items.size hi - sIx items.size 0 lo)).toArray):=by
  show ((items.toList.drop (sIx items.size 0 lo)).take (sIx items.size items.size hi - sIx items.size 0 lo)).toArray.size<=sizeLine;rw[xy,length_take,List.length_drop,Array.length_toList];omega
 have hj:sIx items.size items.size hi<=items.size:=zP7 _ _ (le_refl _) hi;obtain⟨os,hos,hcs,hds⟩:=id hs;have hTs:s.TypeIs (.ref sl) "slice":=⟨os,hos,hcs⟩;unfold getItem
 try with_reducible refine wpAny_holding ?_
 first | refine qQ (q9 ?_) | skip
 refine qQ (wpAny_sequenceKey ht.typeIs (by decide) ?_);refine qQ (wpAny_callSpecial?_slot (name:=Str.ofString "__getitem__") ht.typeIs PyProof.Rows.slot_tuple_getitem
  (wpAny_call_entry PyProof.Rows.slot_tuple_getitem ht.typeIs entry_tuple_getitem ?_ (args_tuple_getitem _ _)))
 show wpAny _ _ (Builtin.Tuple.tupleItemsOf (.ref t)>>=_) _ _ s;refine qQ (tupleItemsOf_ ht ?_);refine qQ (wpAny_typeOf hTs ?_);rw[if_pos (by decide)];refine qQ (zDh hs pl pu ?_);have hno:¬ ((((sIx items.size 0 lo:Nat):Int)==0&&(1:Int)==1&&(sIx items.size items.size hi - sIx items.size 0 lo)==items.size)=true):=by
  grind
 show wpAny _ _ (if _=true then _ else _) _ _ s;rw[if_neg hno,zLK]
 first
  | exact qQ (m:=Builtin.Tuple.tupleExact _) (wpAny_newObj_type (q9 ⟨_,rfl,q9 h⟩) htake)
  | exact qQ (m:=Builtin.Tuple.tupleExact _) (wpAny_newObj_type (qQ (q9 (q9 ⟨_,rfl,q9 h⟩))) htake)
  | exact qQ (qQ (m:=Builtin.Tuple.tupleExact _) (wpAny_newObj_type (q9 (q9 ⟨_,rfl,q9 h⟩)) htake))
  | exact qQ (qQ (m:=Builtin.Tuple.tupleExact _) (wpAny_newObj_type (q9 ⟨_,rfl,q9 h⟩) htake))
end
end HT
namespace L2
open PySem Spec PyProof.Rows
abbrev TO:=St->Hp->(Option Int->Hp->Prop)->Prop
def PO (X:Cx)(e:Option Expr)(t:TO):Prop :=
 ∀ (pins:List (Addr×Obj)) (s:Shared) (B:St) (H:Hp) (Q:Option Int->Hp->Prop),Inv X pins B H s->t B H Q ->
  wpAny (model X.prog X.w) X.A (evalPart e X.env) (λu s'=>∃ o H',Inv X pins B H' s'/\IsPart u o/\Q o H') X.xe s
def zNg:TO:=λ_ H Q=>Q none H
def zSL (t:TE):TO:=λB H Q=>t B H λx H1=>∃ i,x=.int i/\Q (some i) H1
section
variable {X:Cx}{e:Expr}{te:TE}{lo hi:Option Expr}{tl th:TO}{pos p2:Pos}
theorem zNy:PO X none zNg:=by
 intro pins s B H Q I h;exact q9 ⟨none,H,I,.none,h⟩
theorem zNx (h:PE X e te):PO X (some e) (zSL te):=by
 intro pins s B H Q I hw;refine thn (h pins s B H _ I hw) λu s1 zz37=>?_
 obtain⟨x,H1,I1,r1,q1⟩:=zz37;obtain⟨i,rfl,q⟩:=q1;obtain⟨t,rfl⟩:=r1;exact⟨some i,H1,I1,.int i t,q⟩
def SlR (X:Cx)(r:V->Option Int->Option Int->Hp->VK->Prop):Prop :=
 ∀ (pins:List (Addr×Obj)) (s:Shared) (B:St) (H:Hp) (x:V) (v vl vu:Value) (lo hi:Option Int) (sl:Addr) (Q:VK),Inv X pins B H s->RelV x v->s.heap.IsSliceOf sl vl vu .none->IsPart vl lo->IsPart vu hi->r x lo hi H Q ->
  ∃ T id,typeLookup (.type T) "__getitem__"=pure (some (.builtin id))/\s.TypeIs v T/\wpAny (model X.prog X.w) X.A (getItem v (.ref sl)) (EP X pins B Q) X.xe s
theorem SlR.or (h:SlR X r)(h':SlR X r'):SlR X (λx lo hi H Q=>r x lo hi H Q\/r' x lo hi H Q):=by
 intro pins s B H x v vl vu lo hi sl Q I rx hs pl pu q;rcases q with q | q
 .exact h pins s B H x v vl vu lo hi sl Q I rx hs pl pu q
 .exact h' pins s B H x v vl vu lo hi sl Q I rx hs pl pu q
def tSl (r:V->Option Int->Option Int->Hp->VK->Prop)(te:TE)(tl th:TO):TE:=λB H Q=>te B H λx H1=>tl B H1 λl H2=>th B H2 λu H3=>r x l u H3 Q
theorem zLL (hr:SlR X r)(he:PE X e te)(hl:PO X lo tl)(hu:PO X hi th):PE X (.Subscript e (.Slice lo hi none p2) pos) (tSl r te tl th):=by
 intro pins s B H Q I h;refine Subscript_ (thn (he pins s B H _ I h) λv s1 zz38=>?_);obtain⟨x,H1,I1,r1,q1⟩:=zz38;refine wpAny_Slice (thn (hl pins s1 B H1 _ I1 q1) λvl s2 ⟨l,H2,I2,pl,q2⟩=>thn (hu pins s2 B H2 _ I2 q2) λvu s3 zz39=>?_);obtain⟨u,H3,I3,pu,q3⟩:=zz39;refine q9 ?_;have I4:Inv X pins B H3 { s3 with heap:=s3.heap.push { cls:=.type "slice",data:=.fields #[vl,vu,.none] } }:=I3.kept λb ob q=>get?_push_of_some _ q
 obtain⟨T,id,hT,ht,hg⟩:=hr pins { s3 with heap:=s3.heap.push { cls:=.type "slice",data:=.fields #[vl,vu,.none] } } B H3 x v vl vu l u s3.heap.objs.size Q I4 r1 (Heap.IsSliceOf.new ..) pl pu q3;exact tail_any ht hT hg rfl
noncomputable def cutV (xs:List V)(lo hi:Option Int):List V:=(xs.drop (HT.sIx xs.length 0 lo)).take (HT.sIx xs.length xs.length hi - HT.sIx xs.length 0 lo)
theorem zEM (xs:List V)(lo hi:Option Int):(cutV xs lo hi).length<=xs.length:=by
 unfold cutV;simp;omega
def rSlT (K:W.Frag):V->Option Int->Option Int->Hp->VK->Prop:=λx lo hi H Q=>∃ a xs,x=.ref a/\SqT K H a xs /\
 ¬ (HT.sIx xs.length 0 lo=0/\HT.sIx xs.length xs.length hi=xs.length)/\∀ p,H p=none->Q (.ref p) (upd H p (.tup (cutV xs lo hi)))
theorem zP5:SlR X (rSlT X.K):=by
 intro pins s B H x v vl vu lo hi sl Q I rx hs pl pu h;obtain⟨a,xs,rfl,hx,hw,q⟩:=h;cases rx;obtain⟨its,r,ht,hz⟩:=I.tuple hx;have hlen:its.toArray.size=xs.length:=by rw[xy];exact r.length.symm
 refine⟨"tuple",_,PyProof.Rows.slot_tuple_getitem.lookup,ht.typeIs,?_⟩;refine HT.zDY ht hs pl pu (by grind) ?_ (by simp_all);rw[hlen];refine⟨.ref s.heap.objs.size,_,I.laid (λb ob q=>get?_push_of_some _ q) (le_refl _) ?_,rfl,q _ (I.hok.fresh (le_refl _))⟩;exact⟨le_trans (zEM xs lo hi) hz,_,(r.drop _).take _,IsTup.new _ _⟩
def zQD (K:W.Frag):R2:=λx y H Q=>∃ a b xs ys,x=.ref a/\y=.ref b/\SqT K H a xs/\SqT K H b ys/\xs≠[]/\xs.length+ys.length<=sizeLine /\
 (ys=[]->Q (.ref a) H)/\(ys≠[]->∀ p,H p=none->Q (.ref p) (upd H p (.tup (xs++ys))))
theorem Vals.nil_iff (r:Vals xs us):us=[]<->xs=[]:=by
 cases r with
 | nil=>simp
 | cons _ _=>simp
theorem zOC:OpR X (binaryOp .Add) (zQD X.K):=by
 intro pins s B H x y v u Q I rx ry h;obtain⟨a,b,xs,ys,rfl,rfl,ha,hb,hx,hz,q1,q2⟩:=h;cases rx;cases ry;obtain⟨its,r1,p1,_⟩:=I.tuple ha;obtain⟨its2,r2,p2,_⟩:=I.tuple hb;refine HT.zPb p1 p2 (λz=>hx (r1.nil_iff.mp z)) (λz=>⟨.ref a,H,I,rfl,q1 (r2.nil_iff.mp z)⟩) (λz=>?_) (by rw[<- r1.length,<- r2.length];exact hz);refine⟨.ref s.heap.objs.size,_,I.laid (λb ob q=>get?_push_of_some _ q) (le_refl _) ?_,rfl,q2 (λw=>z (r2.nil_iff.mpr w)) _ (I.hok.fresh (le_refl _))⟩;exact⟨by rw[qj];exact hz,_,r1.append r2,IsTup.new _ _⟩
end
end L2
namespace L2
open PySem Spec PyProof.Rows
noncomputable def ixN (n:Nat)(i:Int):Option Nat:=if 0<=i then (if i < n then some i.toNat else none) else if -(n:Int)<=i then some (i+n).toNat else none
noncomputable def atI {U:Type}(xs:List U)(i:Int):Option U:=(ixN xs.length i).bind λj=>xs[j]?
theorem zJp (h:ixN n i=some j):seqIndex? i n=some j/\j < n/\-(n:Int)<=i/\i < n:=by
 unfold ixN at h;by_cases h0:0<=i
 .rw [if_pos h0] at h;by_cases h1:i < n
  .rw [if_pos h1] at h;have e:i.toNat=j:=xj h;exact⟨by rw[seqIndex_of h0 h1,e],by omega,by omega,h1⟩
  .simp_all
 .rw [if_neg h0] at h;by_cases h1:-(n:Int)<=i
  .rw [if_pos h1] at h;have e:(i+n).toNat=j:=xj h;exact⟨by rw[seqIndex_neg (by omega) h1,e],by omega,h1,by omega⟩
  .simp_all
theorem zHL {U:Type}{xs:List U}{i:Int}{v:U}(h:atI xs i=some v):∃ j,seqIndex? i xs.length=some j/\xs[j]?=some v/\j < xs.length/\-(xs.length:Int)<=i/\i < xs.length:=by
 unfold atI at h;cases e:ixN xs.length i with
 | none=>rw[e] at h;cases h
 | some j =>
  simp_all
  obtain⟨h1,h2,h3,h4⟩:=zJp e;exact⟨j,h1,h,h2,h3,h4⟩
theorem zCZ {U:Type}{xs:List U}{j:Nat}{v:U}(h:xs[j]?=some v):atI xs (j:Int)=some v:=by
 have hj:=(zzg h).1;have e:ixN xs.length j=some j:=by
  unfold ixN
  simp_all
 unfold atI;rw[e];exact h
def zFj (b:Expr):Prop:=∀ o i,subscripted b false o i=operate [o,i] (getItem o i)
def IxR (X:Cx)(r:R2):Prop :=
 ∀ (value slice:Expr) (pins:List (Addr×Obj)) (s:Shared) (B:St) (H:Hp) (x y:V) (v u:Value) (Q:VK),Inv X pins B H s->RelV x v->RelV y u->r x y H Q ->
  subscripted slice false v u=operate [v,u] (getItem v u)->wpAny (model X.prog X.w) X.A (subscriptTail value slice v u) (EP X pins B Q) X.xe s
def MtR (X:Cx)(id:String)(r:V->List V->Hp->VK->Prop):Prop :=
 ∀ (pins:List (Addr×Obj)) (s:Shared) (B:St) (H:Hp) (x:V) (xs:List V) (v:Value) (us:List Value) (Q:VK),Inv X pins B H s->RelV x v->Vals xs us->r x xs H Q ->
  wpAny (model X.prog X.w) X.A (call (.builtin id) (v::us)) (EP X pins B Q) X.xe s
section
variable {X:Cx}{a b:Expr}{ta tb:TE}{pos:Pos}
theorem IxR.or (h:IxR X r)(h':IxR X r'):IxR X (λx y H Q=>r x y H Q\/r' x y H Q):=by
 intro value slice pins s B H x y v u Q I rx ry q hs;rcases q with q | q
 .exact h value slice pins s B H x y v u Q I rx ry q hs
 .exact h' value slice pins s B H x y v u Q I rx ry q hs
theorem zQM (hr:IxR X r)(ha:PE X a ta)(hb:PE X b tb)(hs:zFj b):PE X (.Subscript a b pos) (tOp r ta tb):=by
 intro pins s B H Q I h;exact Subscript_ (binT ha hb I h λv u s2 x y H2 I2 rx ry q=>hr a b pins s2 B H2 x y v u Q I2 rx ry q (hs _ _))
def rIxL (K:W.Frag):R2:=λx y H Q=>∃ p xs i v,x=.ref p/\y=.int i/\SqL K H p xs/\atI xs i=some v/\Q v H
def rIxT (K:W.Frag):R2:=λx y H Q=>∃ p xs i v,x=.ref p/\y=.int i/\SqT K H p xs/\atI xs i=some v/\Q v H
theorem zJo:IxR X (rIxL X.K):=by
 intro value slice pins s B H x y v u Q I rx ry h hs;obtain⟨p,xs,i,z,rfl,rfl,hq,he,q⟩:=h;cases rx;obtain⟨t,rfl⟩:=ry;obtain⟨its,r,pl,hz⟩:=I.list hq;obtain⟨j,h1,h2,h3,h4,h5⟩:=zHL he;obtain⟨w,ew,rw'⟩:=r.get h2;have hl:=r.length;have hn:=zF9;have fin:EP X pins B Q w s:=⟨z,H,I,rw',q⟩;by_cases h0:0<=i
 .have hj:i.toNat=j:=by
   rw[seqIndex_of h0 h5] at h1;exact xj h1
  exact item_listR pl.isList h0 (by omega) (by rw[hj];simpa using ew) fin hs
 .have hj:(i+(its.toArray.size:Int)).toNat=j:=by
   rw[seqIndex_neg (by omega) h4] at h1
   simp_all
  exact subscriptTail_builtinR (x:=w) pl.isList.typeIs slot_list_getitem.lookup
   (wpAny_getItem_list_neg pl.isList (by omega) (by rw[xy]<;>omega) (by omega) (by rw[hj];simpa using ew) ⟨rfl,fin⟩) hs
theorem zNI:IxR X (rIxT X.K):=by
 intro value slice pins s B H x y v u Q I rx ry h hs;obtain⟨p,xs,i,z,rfl,rfl,hq,he,q⟩:=h;cases rx;obtain⟨t,rfl⟩:=ry;obtain⟨its,r,pl,hz⟩:=I.tuple hq;obtain⟨j,h1,h2,h3,h4,h5⟩:=zHL he;obtain⟨w,ew,rw'⟩:=r.get h2;have hl:=r.length;have hn:=zF9;exact subscriptTail_builtinR pl.typeIs slot_tuple_getitem.lookup
  (getItem_tuple (j:=j) pl (by omega) (by omega) (by simp_all) (by simpa using ew) ⟨rfl,(⟨z,H,I,rw',q⟩)⟩) hs
theorem zIS (its:List Value)(n j:Nat)(u:Value):Obj.mapSeq (·.setIfInBounds j u) { cls:=.type "list",data:=.seq its.toArray n }={ cls:=.type "list",data:=.seq (its.set j u).toArray n }:=by
 simp[Obj.mapSeq]
theorem Inv.lst {pins:List (Addr×Obj)}{B:St}{H:Hp}{s:Shared}{p:Addr}{xs:List V}(I:Inv X pins B H s)(h:H p=some (.lst xs)) :
  ∃ (its:List Value) (n:Nat),Vals xs its/\s.heap.get? p=some { cls:=.type "list",data:=.seq its.toArray n }/\xs.length<=sizeLine:=by
 obtain⟨z,its,n,r,e⟩:=I.hok p _ h;exact⟨its,n,r,e,z⟩
theorem Inv.lstUpd {pins:List (Addr×Obj)}{B:St}{H:Hp}{s:Shared}{p:Addr}{xs ys:List V}{its its':List Value}{n n':Nat}{f:Obj->Obj}(I:Inv X pins B H s)(h:H p=some (.lst xs))
  (ho:s.heap.get? p=some { cls:=.type "list",data:=.seq its.toArray n }) (hf:f { cls:=.type "list",data:=.seq its.toArray n }={ cls:=.type "list",data:=.seq its'.toArray n' }) (r:Vals ys its') (hz:ys.length<=sizeLine) (t:Nat) :
  Inv X pins B (upd H p (.lst ys)) { s with heap:=s.heap.update p f,toks:=t }:=by
 have e:(s.heap.update p f).get? p=some { cls:=.type "list",data:=.seq its'.toArray n' }:=by
  rw[Heap.get?_update_self f ho (by rw[hf]<;>rfl),hf]
 refine I.write (by rw[h];trivial) (.inl rfl) (λb u hb q=>(Heap.get?_update_other _ _ (Ne.symm hb)).trans q) ⟨_,e⟩ ?_;exact⟨hz,its',n',r,e⟩
def zSU:V->V->V->Hp->(Hp->Prop)->Prop:=λo i v H Q=>∃ p xs k j,o=.ref p/\i=.int k/\H p=some (.lst xs)/\ixN xs.length k=some j/\Q (upd H p (.lst (xs.set j v)))
theorem zLB:PSet X zSU:=by
 intro pins s B H o i v ov iv u Q I ro ri rv h;obtain⟨p,xs,k,j,rfl,rfl,hp,hj,q⟩:=h;cases ro;obtain⟨t,rfl⟩:=ri;obtain⟨its,n,r,ho,hz⟩:=I.lst hp;obtain⟨h1,h2,h3,h4⟩:=zJp hj;have hl:=r.length;have hn:=zF9;have I' :=
  I.lstUpd hp ho (zIS its n j u) (r.set rv j) (by rw[length_set];exact hz) s.toks
 by_cases h0:0<=k
 .have hk:k.toNat=j:=by
   rw[seqIndex_of h0 h4] at h1;exact xj h1
  exact W.ki_setAt ho h0 (by omega) (by simp_all) (by rw[hk];exact⟨_,I',q⟩)
 .have hk:(k+(its.toArray.size:Int)).toNat=j:=by
   rw[seqIndex_neg (by omega) h3] at h1;grind
  exact W.ki_setBack ho (by omega) (by rw[xy,<- hl];exact h3) (by omega) (by rw[hk];exact⟨_,I',q⟩)
theorem zFt (lo hi:Option Int)(n:Nat):(sliceBounds lo hi none n).1=((HT.sIx n 0 lo:Nat):Int)/\(sliceBounds lo hi none n).2.1=((HT.sIx n n hi:Nat):Int)/\(sliceBounds lo hi none n).2.2=1:=by
 refine⟨?_,?_,rfl⟩
 .cases lo with
  | none=>simp[sliceBounds,HT.sIx]
  | some i =>
   simp only[sliceBounds,HT.sIx,Option.getD_none,show (1:Int)>0 by decide,if_true];by_cases h:i < 0
   .simp only [h,if_true]<;>omega
   .simp only [h,if_false]<;>omega
 .cases hi with
  | none=>simp[sliceBounds,HT.sIx]
  | some i =>
   simp only[sliceBounds,HT.sIx,Option.getD_none,show (1:Int)>0 by decide,if_true];by_cases h:i < 0
   .simp only [h,if_true]<;>omega
   .simp only [h,if_false]<;>omega
theorem zFD (its:List Value)(lo hi:Option Int):slicePick its.toArray lo hi none=((its.drop (HT.sIx its.length 0 lo)).take (HT.sIx its.length its.length hi - HT.sIx its.length 0 lo)).toArray:=by
 obtain⟨h1,h2,h3⟩:=zFt lo hi its.toArray.size;unfold slicePick;rw[h1,h2,h3];simp only[sliceRange_one,pick_run]<;>rfl
def rSlL (K:W.Frag):V->Option Int->Option Int->Hp->VK->Prop:=λx lo hi H Q=>∃ a xs,x=.ref a/\SqL K H a xs/\∀ p,H p=none->Q (.ref p) (upd H p (.lst (cutV xs lo hi)))
theorem zNk:SlR X (rSlL X.K):=by
 intro pins s B H x v vl vu lo hi sl Q I rx hs pl pu h;obtain⟨a,xs,rfl,hx,q⟩:=h;cases rx;obtain⟨its,r,ht,hz⟩:=I.list hx;have hlen:=r.length;refine⟨"list",_,slot_list_getitem.lookup,ht.isList.typeIs,?_⟩;refine wpAny_getItem_list_slice ht.isList hs pl pu .none (by simp) ?_ (by grind);rw[zFD,<- hlen];refine⟨.ref s.heap.objs.size,_,I.laid (λb ob q=>get?_push_of_some _ q) (le_refl _) ?_,rfl,q _ (I.hok.fresh (le_refl _))⟩;exact⟨le_trans (zEM xs lo hi) hz,_,0,(r.drop _).take _,get?_push_size _ rfl⟩
theorem zDf:zEV X (.builtin "len") (λxs H Q=>∃ p ys,xs=[.ref p]/\(SqL X.K H p ys\/SqT X.K H p ys)/\Q (.int ys.length) H):=by
 intro pins s B H xs us Q I r h;obtain⟨p,ys,rfl,hq,q⟩:=h;obtain⟨u,rfl,rx⟩:=zID r;cases rx;have hn:=zF9;rcases hq with hq | hq
 .obtain ⟨its,r',pl,hz⟩:=I.list hq;have hlen:=r'.length;exact Calls.call_len_list pl.isList (by simp only[xy]<;>omega) ⟨.int ys.length,H,I.tok _,⟨s.toks+1,by rw[xy,hlen]⟩,q⟩
 .obtain ⟨its,r',pl,hz⟩:=I.tuple hq;have hlen:=r'.length;exact len_tuple pl (by simp only[xy]<;>omega) ⟨.int ys.length,H,I.tok _,⟨s.toks+1,by rw[xy,hlen]⟩,q⟩
theorem zDe:zEV X (.type "list") (λxs H Q=>∃ p ys,xs=[.ref p]/\(SqL X.K H p ys\/SqT X.K H p ys)/\∀ l,H l=none->Q (.ref l) (upd H l (.lst ys))):=by
 intro pins s B H xs us Q I r h;obtain⟨p,ys,rfl,hq,q⟩:=h;obtain⟨u,rfl,rx⟩:=zID r;cases rx;have fin:∀ (its:List Value),Vals ys its->ys.length<=sizeLine->∀ (h':Heap) (c':Nat),_ ->
   h'.get? s.heap.objs.size=some { cls:=.type "list",dict:=none,data:=.seq its.toArray c',slots:=#[] }->EP X pins B Q _ { s with heap:=h' }:=λits r' hz h' c' kp e =>
  ⟨.ref s.heap.objs.size,_,I.laid (t':=s.toks) kp (le_refl _) (show zBz X.prog X.w _ h' _ (.lst ys) from ⟨hz,its,c',r',e⟩),rfl,q _ (I.hok.fresh (le_refl _))⟩
 rcases hq with hq | hq
 .obtain ⟨its,r',pl,hz⟩:=I.list hq;have hlen:=r'.length;obtain⟨o,ho,hc,n,hd⟩:=pl.isList;exact call_list_seq p (.inl rfl) ho hc hd (λh' c' kp e=>fin its r' hz h' c' kp e) (by simp_all)
 .obtain ⟨its,r',pl,hz⟩:=I.tuple hq;have hlen:=r'.length;obtain⟨o,ho,hc,n,hd⟩:=pl;exact call_list_seq p (.inr rfl) ho hc hd (λh' c' kp e=>fin its r' hz h' c' kp e) (by grind)
theorem zFf:zEV X (.type "tuple") (λxs H Q=>∃ p ys,xs=[.ref p]/\((SqL X.K H p ys/\∀ l,H l=none->Q (.ref l) (upd H l (.tup ys)))\/(SqT X.K H p ys/\Q (.ref p) H))):=by
 intro pins s B H xs us Q I r h;obtain⟨p,ys,rfl,h⟩:=h;obtain⟨u,rfl,rx⟩:=zID r;cases rx;rcases h with ⟨hq,q⟩ | ⟨hq,q⟩
 .obtain ⟨its,r',pl,hz⟩:=I.list hq;have hlen:=r'.length;refine call_tuple_list pl.isList (λh' kp=>?_) (by grind);have I1:=I.kept (t':=s.toks) kp;have I2 :=
   I1.laid (t':=s.toks) (λb o e=>get?_push_of_some _ e) (le_refl _) (show zBz X.prog X.w _ _ _ (.tup ys) from ⟨hz,its,r',IsTup.new _ _⟩)
  exact⟨.ref h'.objs.size,_,I2,rfl,q _ (I1.hok.fresh (le_refl _))⟩
 .obtain ⟨its,r',pl,hz⟩:=I.tuple hq;exact call_tuple_same pl ⟨.ref p,H,I,rfl,q⟩
def tyV (K:W.Frag)(T:String)(x:V)(H:Hp):Prop:=match x with
 | .str _=>T = "str"
 | .int _=>T = "int"
 | .ref p=>(T = "list"/\∃ xs,SqL K H p xs)\/(T = "tuple"/\∃ o,K.lookup p=some o/\o.cls=.type "tuple"/\o.dict=none) \/
   (T = "dict"/\((∃ kvs,H p=some (.dK kvs))\/∃ kvs,H p=some (.dT kvs)))\/(T = "set"/\∃ S n,H p=some (.set S n))
 | _=>False
theorem zMm {pins:List (Addr×Obj)}{B:St}{H:Hp}{s:Shared}{T:String}{x:V}{v:Value}(I:Inv X pins B H s)(r:RelV x v)(ty:tyV X.K T x H) :
  s.TypeIs v T/\∀ a,v=.ref a->∃ ob,s.heap.get? a=some ob/\ob.dict=none:=by
 cases x with
 | str z =>
  obtain⟨t,rfl⟩:=r;cases ty;exact⟨typeIs_str s z t,λ_ e=>nomatch e⟩
 | int i =>
  obtain⟨t,rfl⟩:=r;cases (show T = "int" from ty);exact⟨typeIs_int s i t,λ_ e=>nomatch e⟩
 | ref p =>
  cases r;rcases ty with ⟨rfl,xs,hq⟩ | ⟨rfl,o,hk,hc,hd⟩ | ⟨rfl,hk⟩ | ⟨rfl,S,n,hk⟩
  .obtain ⟨its,_,pl,_⟩:=I.list hq;refine⟨pl.isList.typeIs,λa e=>?_⟩;cases e;obtain⟨o,n,e,c,hd,_⟩:=pl;exact⟨o,e,hd⟩
  .refine ⟨⟨o,I.kIn p o hk,hc⟩,λa e=>?_⟩;cases e;exact⟨o,I.kIn _ o hk,hd⟩
  .have z:∃ o,s.heap.get? p=some o/\o.ExactDict:=by
    rcases hk with ⟨kvs,hk⟩ | ⟨kvs,hk⟩
    .obtain ⟨_,_,_,_,o,_,_,e,ex,_⟩:=I.hok p _ hk;exact⟨o,e,ex⟩
    .obtain ⟨_,_,_,_,o,_,_,e,ex,_⟩:=I.hok p _ hk;exact⟨o,e,ex⟩
   obtain⟨o,e,ex⟩:=z;refine⟨⟨o,e,ex.1⟩,λa e2=>?_⟩;cases e2;exact⟨o,e,ex.2.1⟩
  .obtain ⟨o,_,_,_,e,ex,_⟩:=I.hok p _ hk;refine⟨⟨o,e,ex.1⟩,λa e2=>?_⟩;cases e2;exact⟨o,e,ex.2.1⟩
 | _=>exact False.elim ty
def tBM0 (K:W.Frag)(T:String)(r:V->List V->Hp->VK->Prop)(to:TE):TE:=λB H Q=>to B H λx H1=>tyV K T x H1/\r x [] H1 Q
def tBM (K:W.Frag)(T:String)(r:V->List V->Hp->VK->Prop)(to:TE)(t:TA):TE:=λB H Q=>to B H λx H1=>tyV K T x H1/\t B H1 λxs H2=>r x xs H2 Q
variable {o e:Expr}{es:List Expr}{to:TE}{t:TA}{name:Str}{apos cpos:Pos}{T id:String}{r:V->List V->Hp->VK->Prop}
theorem zQO (pa:PlainAttrs T)(slot:Slot T name id)(hty:typeOf (.builtin id)=pure (.type "method_descriptor"))(hm:MtR X id r)(ho:PE X o to)
  (hbase:attributeBase o name X.env (eval o X.env)=eval o X.env:=by rfl) (hline:(apos.endLine==cpos.line)=true:=by rfl):PE X (.Call (.Attribute o name apos) [] [] cpos) (tBM0 X.K T r to):=by
 intro pins s B H Q I h;refine wpAny_Call_method0_late hbase hline (thn (ho pins s B H _ I h) λv s1 zz40=>?_);obtain⟨x,H1,I1,r1,ty,q1⟩:=zz40;obtain⟨h1,h2⟩:=zMm I1 r1 ty;exact⟨T,id,pa,slot,hty,h1,h2,Calls.callWith_builtin rfl (PySem.evalArgs_none (hm pins s1 B H1 x [] v [] Q I1 r1 .nil q1))⟩
theorem zGk (pa:PlainAttrs T)(slot:Slot T name id)(hty:typeOf (.builtin id)=pure (.type "method_descriptor"))(hm:MtR X id r)(ho:PE X o to)(ha:PA X (e::es) t)
  (hbase:attributeBase o name X.env (eval o X.env)=eval o X.env:=by rfl)
  (hfew:((backTo cpos (starEach (e::es) X.env)).all (λx=>!x.1)&&(backToKw cpos (keywordEach [] X.env)).all (λx=>x.1.isSome)
   && decide ((e::es).length+([]:List Keyword).length+(if ([]:List Keyword).isEmpty then 0 else 1) < 30))=true:=by rfl)
  (hline:(apos.endLine==cpos.line)=true:=by rfl) (hs:starEach (e::es) X.env=(false,eval e X.env)::starEach es X.env:=by rfl) (hplain:(backTo cpos (starEach es X.env)).any (·.1)=false:=by rfl) :
  PE X (.Call (.Attribute o name apos) (e::es) [] cpos) (tBM X.K T r to t):=by
 intro pins s B H Q I h;refine wpAny_Call_method_late hbase hfew hline rfl (thn (ho pins s B H _ I h) λv s1 zz41=>?_);obtain⟨x,H1,I1,r1,ty,q1⟩:=zz41;obtain⟨h1,h2⟩:=zMm I1 r1 ty;refine⟨T,id,pa,slot,hty,h1,h2,?_⟩;have hA:=ha cpos pins s1 B H1 _ I1 q1;rw[hs] at hA ⊢;refine Calls.callWith_builtin (by show (false||(backTo cpos (starEach es X.env)).any (·.1))=false;rw[hplain]<;>rfl) (Calls.evalArgs_plain ?_);exact thn hA λus s2 zy152=>by obtain⟨vs,H2,I2,r2,q2⟩:=zy152;exact hm pins s2 B H2 x vs v us Q I2 r1 r2 q2
end
def MtM (X:Cx)(id:String)(r:V->List V->Hp->VK->Prop):Prop :=
 ∀ (pins:List (Addr×Obj)) (s:Shared) (B:St) (H:Hp) (x:V) (xs:List V) (v:Value) (us:List Value) (Q:VK),Inv X pins B H s->RelV x v->Vals xs us->r x xs H Q ->
  wpAny (model X.prog X.w) X.A (call (.builtin id) (v::us)) (EP X pins B Q) X.xe s
theorem Vals.one:∀ {x:V} {us:List Value},Vals [x] us->∃ u,us=[u]/\RelV x u
 | _,_,.cons r .nil=>⟨_,rfl,r⟩
theorem Vals.two (h:Vals [x,y] us):∃ u v,us=[u,v]/\RelV x u/\RelV y v:=by
 cases h with
 | cons r t =>
  cases t with
  | cons q t2 =>
   cases t2;exact⟨_,_,rfl,r,q⟩
theorem Vals.zero:∀ {us:List Value},Vals [] us->us=[]
 | _,.nil=>rfl
theorem Vals.dropLast (h:Vals xs us):Vals xs.dropLast us.dropLast:=by
 induction h with
 | nil=>exact .nil
 | cons r t ih =>
  cases t with
  | nil=>exact .nil
  | cons q t'=>exact .cons r ih
theorem Vals.reverse (h:Vals xs us):Vals xs.reverse us.reverse:=by
 induction h with
 | nil=>exact .nil
 | cons r t ih=>rw[reverse_cons,reverse_cons];exact Vals.append ih (.cons r .nil)
theorem zGA {U:Type}:∀ (l:List U) (i:Nat),(l.eraseIdx i).length<=l.length
 | [],_=>le_refl _
 | _::_,0=>Nat.le_succ _
 | _::r,i+1=>Nat.succ_le_succ (zGA r i)
section
variable {X:Cx}{pins:List (Addr×Obj)}{B:St}{H:Hp}{s:Shared}{l b:Addr}{xs ys zs:List V}
theorem Inv.lset {its:List Value}(I:Inv X pins B H s)(hH:H l=some (.lst xs))
  (e:s.heap.get? l=some { cls:=.type "list",data:=.seq its.toArray n }) (hf:f its.toArray=its'.toArray) (hv:Vals ys its') (hz:ys.length<=sizeLine) :
  Inv X pins B (upd H l (.lst ys)) { s with heap:=s.heap.update l (Obj.mapSeq f),toks:=t' }:=by
 have q:=PySem.IsL.update e f
 simp_all
 refine I.write (by rw[hH];exact trivial) (.inl rfl) (λb' u hb hu=>(Heap.get?_update_other s.heap _ (Ne.symm hb)).trans hu) ⟨_,q⟩ ?_;exact⟨hz,its',_,hv,q⟩
theorem Inv.lnew (I:Inv X pins B H s)(hv:Vals ys its)(hz:ys.length<=sizeLine) :
  Inv X pins B (upd H s.heap.objs.size (.lst ys)) { s with heap:=s.heap.push { cls:=.type "list",data:=.seq its.toArray },toks:=t' } :=
 I.laid (λ_ _ q=>get?_push_of_some _ q) (le_refl _) ⟨hz,its,0,hv,get?_push_size _ rfl⟩
theorem Inv.fresh (I:Inv X pins B H s):H s.heap.objs.size=none:=I.hok.fresh (le_refl _)
theorem Inv.lstM (I:Inv X pins B H s)(hH:H l=some (.lst xs)):xs.length<=sizeLine/\∃ (its:List Value) (n:Nat),Vals xs its/\xs.length=its.length/\s.heap.get? l=some { cls:=.type "list",data:=.seq its.toArray n }:=by
 obtain⟨z,its,n,r,e⟩:=I.hok l _ hH;exact⟨z,its,n,r,r.length,e⟩
theorem zLX (h:n<=sizeLine):Builtin.List.listTooLong n=false:=decide_eq_false (by omega)
end
section
variable {X:Cx}
def zNr:V->List V->Hp->VK->Prop:=λx vs H Q=>∃ l xs y,x=.ref l/\vs=[y]/\H l=some (.lst xs)/\xs.length < sizeLine/\Q .non (upd H l (.lst (xs++[y])))
theorem zF4:MtM X "list.append" zNr:=by
 intro pins s B H x vs v us Q I rx rv h;obtain⟨l,xs,y,rfl,rfl,hH,hz,q⟩:=h;cases rx;obtain⟨u,rfl,ru⟩:=rv.one;obtain⟨z,its,n,r,hl,e⟩:=I.lstM hH;refine call_meets F.slot_list_append ⟨_,e,rfl⟩ F.entry_list_append (F.args_list_append_2 _ _) (PySem.list_append l its.toArray n u (by grind)) ⟨e,?_⟩;refine⟨.non,_,I.lset hH e (by simp) (r.append (.cons ru .nil)) ?_,rfl,q⟩;grind
def zNq:V->List V->Hp->VK->Prop:=λx vs H Q=>∃ l b xs zs,x=.ref l/\vs=[.ref b]/\H l=some (.lst xs)/\H b=some (.lst zs)/\xs.length+zs.length<=sizeLine/\Q .non (upd H l (.lst (xs++zs)))
theorem zJZ:MtM X "list.extend" zNq:=by
 intro pins s B H x vs v us Q I rx rv h;obtain⟨l,b,xs,zs,rfl,rfl,hH,hB,hz,q⟩:=h;cases rx;obtain⟨u,rfl,ru⟩:=rv.one;cases ru;obtain⟨z,its,n,r,hl,e⟩:=I.lstM hH;obtain⟨z2,its2,n2,r2,hl2,e2⟩:=I.lstM hB;have hsz:its.toArray.size+its2.toArray.size<=sizeLine:=by rw[xy,xy];omega
 have hlong:¬ (!its.toArray.isEmpty&&Builtin.List.listTooLong (its.toArray.size+its2.toArray.size))=true:=by
  rw[zLX hsz,Bool.and_false];exact qX
 refine call_meets F.slot_list_extend ⟨_,e,rfl⟩ F.entry_list_extend (F.args_list_extend_2 _ _)
  (AutoSeq1.list_extend_list_list_0 l its.toArray n b its2.toArray n2 hlong (by omega) (by omega)) ⟨e,e2,?_⟩
 refine⟨.non,_,I.lset hH e (by simp) (r.append r2) ?_,rfl,q⟩
 simp_all
def zLG:V->List V->Hp->VK->Prop:=λx vs H Q=>∃ l xs,x=.ref l/\vs=[]/\H l=some (.lst xs)/\Q .non (upd H l (.lst xs.reverse))
theorem zIR:MtM X "list.reverse" zLG:=by
 intro pins s B H x vs v us Q I rx rv h;obtain⟨l,xs,rfl,rfl,hH,q⟩:=h;cases rx;have hus:=rv.zero;subst hus;obtain⟨z,its,n,r,hl,e⟩:=I.lstM hH;refine call_meets F.slot_list_reverse ⟨_,e,rfl⟩ F.entry_list_reverse (F.args_list_reverse_1 _) (AutoSeq1.list_reverse_list_0 l its.toArray n (by grind)) ⟨e,?_⟩;refine⟨.non,_,I.lset hH e (by simp) r.reverse ?_,rfl,q⟩
 simp_all
theorem zGu {U:Type}(xs:List U)(k:Nat):(List.replicate k xs).flatten.length=k*xs.length:=by simp
end
end L2
namespace Att
open PySem PySem.W PySem.Calls PyProof.Rows
theorem zEB :∀ (ns:List Int) (vs:List Value),WellAll P h vs (ns.map WData.int)->IntsAre vs ns:=by
 intro ns
 induction ns with
 | nil =>
  intro vs w;cases w;exact .nil
 | cons n ns ih =>
  intro vs w;cases w with
  | cons a b =>
   cases a;exact .cons _ _ (ih _ b)
theorem zH6:∀ {ns:List Int},WData.weightAll (ns.map WData.int)<=2^20->∀ x∈ns,Builtin.Int.intBits x<=2^20
 | n::ns,h,x,hx=>by
  rw[map_cons,WData.weightAll,WData.weight] at h;rcases mem_cons.mp hx with rfl | hx
  .unfold Builtin.Int.intBits;omega
  .exact zH6 (by omega) x hx
theorem zI1 {l:OpenLaw}(hn:l.most=some n)
  (hpre:l.row.toRowW.claim.pre args=true) (hwl:WellAll P h vals args) (hlay:WData.layableAll args=true) :
  ∃ a vs ns,vals=[Value.ref a]/\args=[WData.list (ns.map WData.int)]/\h.get? a=some { cls:=.type "list",data:=.seq vs.toArray }/\IntsAre vs ns/\(ns.length<=n/\∀ x∈ns,Builtin.Int.intBits x<=2^20):=by
 have hc:=(pre_splitW hpre).2;obtain⟨d,r,rfl,h1,h2⟩:=hasAllW_cons ((pre_splitW hpre).1);obtain rfl:=hasAllW_nil h2;obtain⟨xs,rfl,h3⟩:=hasW_list h1;obtain⟨ns,rfl⟩:=items_int h3;have hlen:ns.length<=n:=by
  have h4:(WTm.not (.lt (.lit (.int (n:Int))) (.len (.arg 0)))).holds [] { args:=[.list (ns.map .int)] }=true:=by
   have h4:=(holds_andW hc).1;rw[hn] at h4;exact h4
  have h5:=condW_of h4 (w_not (w_lt w_lit (w_len_list (w_arg rfl))));grind
 cases hwl with
 | cons w1 w2 =>
  cases w2;cases w1 with
  | list ho hall=>exact⟨_,_,ns,rfl,rfl,ho,zEB ns _ hall,hlen,zH6 (of_decide_eq_true (Bool.and_eq_true_iff.mp (W.layW_cons hlay).1).2)⟩
theorem zJA (l:OpenLaw)(args:List WData):l.row.toRowW.claim.post args (.bool true) args=true :=
 postW_of
  rfl
  (w_eq_bool (w_res rfl) w_lit) rfl
theorem zHK {l:OpenLaw}
  (hn:l.most=some n) (hdf:d.params.defaults=[])
  (call:∀ (w:World) (s0 O3:Shared) (mg mb:Str->Option Value) (fa:Addr) (o:Obj) (pm cd doc:Value) (a:Addr) (vs:List Value) (ns:List Int),
   Ground q loose [] XP w s0 mg mb O3.heap->YP w O3.heap ->
   O3.heap.get? fa=some o->o.data=.func (docDef d.name d.params d.body d.scope pm cd doc)->O3.heap.CodeRec cd d.name->mg d.name=some (.ref fa) ->
   O3.heap.get? a=some { cls:=.type "list",data:=.seq vs.toArray }->IntsAre vs ns->(ns.length<=n/\∀ x∈ns,Builtin.Int.intBits x<=2^20)->O3.gens=#[] ->
   codeAny (model l.prog w) callerA (.call (.ref fa) ⟨[.ref a],[]⟩) (λr s'=>r=.ok (.ret (.bool true))/\OldK O3.heap s'.heap/\s'.os=O3.os/\AllBare s'.gens) O3) :
  WalkO q loose XP YP l.row.toRowW d [] (λf vs=>PySem.call f vs):=by
 intro w s0 O3 mg mb G Y fa o pm cd doc dV kV ho hd hcd hD hmg hg args vals as hpre hlay hrd hwl hlo;obtain rfl:=Dflts.none hD hdf;obtain rfl:kV=.none:=Dflts.noKw hD;obtain⟨a,vs,ns,rfl,rfl,hobj,hints,hlen⟩:=zI1 hn hpre hwl hlay;refine enter_call (codeAny_mono (call w s0 O3 mg mb fa o pm cd doc a vs ns G Y ho (fd_plain hd) hcd hmg hobj hints hlen hg) λr s' hq=>?_);obtain⟨rfl,h2,h3,h4⟩:=hq;exact⟨.inl ⟨.bool true,.bool true,[],rfl,λ_=>rfl,.bool true,zJA l _,λ_=>⟨List.Pairwise.nil,λ_ hm=>(nomatch hm)⟩⟩,h2,h3,h4⟩
section
variable {prog:Program}{w:World}{A:Around}{E:Value->Shared->Prop}{s:Shared}{K:Frag}
end
end Att
namespace L2
open PySem Spec PyProof.Rows
theorem zDI:∀ {vs:List Value} {ns:List Int},IntsAre vs ns->Vals (ns.map V.int) vs
 | _,_,.nil=>.nil
 | _,_,.cons n t h=>.cons ⟨t,rfl⟩ (zDI h)
def Only (H:Hp):Prop:=∀ b,H b=none\/∃ o xs,H b=some (.frz o (.lst xs))
noncomputable def tblT (tl:List (Str×Addr×Addr)):List (Addr×Str):=tl.map λt=>(t.2.2,lamQ t.1)
noncomputable def hpT (tl:List (Str×Addr×Addr))(H:Hp):Hp:=λb=>match (tblT tl).lookup b with
 | some q=>some (.tbl q)
 | none=>H b
theorem zF6 {Z:Type}:∀ {l:List (Addr×Z)} {a:Addr} {b:Z},l.lookup a=some b->(a,b)∈l
 | [],_,_,e=>by cases e
 | (c,x)::r,a,b,e=>by
  rw[lookup_cons] at e;cases hb:a==c with
  | true=>rw[hb] at e;cases e;rw[eq_of_beq hb];exact .head _
  | false=>rw[hb] at e;exact .tail _ (zF6 e)
theorem zEp:∀ {tl:List (Str×Addr×Addr)} {x:Str} {c P:Addr},(tl.map λt=>t.2.2).Nodup->(x,c,P)∈tl->(tblT tl).lookup P=some (lamQ x)
 | t::tl,x,c,P,nd,h=>by
  rcases mem_cons.mp h with e | h
  .cases e;unfold tblT;rw[map_cons,lookup_cons,beq_self_eq_true]
  .have n:=(nodup_cons.mp (show ((t.2.2)::tl.map λt=>t.2.2).Nodup from nd));have ne:(P==t.2.2)=false:=by
    refine beq_eq_false_iff_ne.mpr λz=>n.1 ?_
    rw[<- z];exact mem_map.mpr ⟨_,h,rfl⟩
   unfold tblT;rw[map_cons,lookup_cons,ne];exact zEp n.2 h
theorem zLi {K:W.Frag}{tl:List (Str×Addr×Addr)}
  (KX:K.In O3.heap) (hns:O3.heap.Ns mainGlobals mg) (hb:O3.heap.Ns builtinsNs mb) (hbb:∀ x:Str,x ≠ "__name__"->mb x=bootBuiltins x) (hlim:O3.heap.NoLimit) (hsr:O3.heap.NoSeer) (htr:(model P w).prog.given.tree=none) (hg:O3.gens=#[])
  (ha:O3.heap.get? a=some { cls:=.type "list",data:=.seq vs.toArray }) (hi:IntsAre vs ns) (hl:ns.length<=sizeLine) (hr:Room k callerA)
  (F:∀ base:Heap,K.In base->base.Ns mainGlobals mg->FnOk P w K mg base CX k fa fd [x] sp) (hbind:∀ (s:Shared) (u:Value),BindsTo s fd ⟨[u],[]⟩ [(x,u)])
  (hbm:∃ bm ob,mg "__builtins__"=some (.ref bm)/\bm≠builtinsNs/\O3.heap.get? bm=some ob/\ob.cls=.type "module"/\ob.dict=some builtinsNs/\ob.data=.plain) (htab:∀ t∈tl,W.CodeHd O3.heap t.2.1 t.2.2/\O3.heap.get? t.2.2=some (W.tabObj #[])) (htl:∀ x∈zCB,tabQ K x=tl.lookup x) (hnd:(tl.map λt=>t.2.2).Nodup) (hnt:W.noTabs K=true)
  (hsp:∀ H:Hp,(∀ xs,H a≠some (.lst xs))->SqL K H a (ns.map V.int)->sp [.ref a] H (λv _=>v=.bl true) λ_ _ _=>False)
  (hCX:∀ H e s',CX [] H O3 (λ_ _ _=>False) e s'->False) :
  codeAny (model P w) callerA (.call (.ref fa) ⟨[.ref a],[]⟩) (λr s'=>r=.ok (.ret (.bool true))/\OldK O3.heap s'.heap/\s'.os=O3.os/\AllBare s'.gens) O3:=by
 have rv:=zDI hi;have lenV:=hi.length;have tat:∀ {b:Addr} {qq:Str},(tblT tl).lookup b=some qq->∃ c,W.CodeHd O3.heap c b/\O3.heap.get? b=some (W.tabObj #[]):=λ{b qq} e=>by
  obtain⟨t,mt,et⟩:=mem_map.mp (zF6 e);cases et;exact⟨t.2.1,htab t mt⟩
 have tna:(tblT tl).lookup a=none:=by
  cases e:(tblT tl).lookup a with
  | none=>rfl
  | some qq =>
   obtain⟨_,_,e2⟩:=tat e;rw[ha] at e2;cases e2
 have core:∀ H0:Hp,Only H0->SqL K H0 a (ns.map V.int)->HOk P w H0 O3.heap->(∀ b,H0 b≠none->b=a)->(H0 a≠none->K.lookup a=none) ->
   codeAny (model P w) callerA (.call (.ref fa) ⟨[.ref a],[]⟩) (λr s'=>r=.ok (.ret (.bool true))/\OldK O3.heap s'.heap/\s'.os=O3.os/\AllBare s'.gens) O3:=by
  intro H0 hO0 hS0 hok0 hA0 hK0;obtain⟨H,eH⟩:∃ H:Hp,H=hpT tl H0:=⟨_,rfl⟩;have Hat:∀ {b:Addr} {qq:Str},(tblT tl).lookup b=some qq->H b=some (.tbl qq):=λ{b qq} e=>by rw[eH];unfold hpT;rw[e]
  have Hout:∀ {b:Addr},(tblT tl).lookup b=none->H b=H0 b:=λ{b} e=>by rw[eH];unfold hpT;rw[e]
  have H0t:∀ {b:Addr} {u:HO},H0 b=some u->H b=some u:=λ{b u} e=>by
   have z:b=a:=hA0 b (by rw[e];simp);rw[Hout (by rw[z];exact tna)];exact e
  have hS:SqL K H a (ns.map V.int):=by
   rcases hS0 with (z | ⟨o,z⟩) | z
   .exact .inl (.inl (H0t z))
   .exact .inl (.inr ⟨o,H0t z⟩)
   .exact .inr z
  have hL:∀ xs,H a≠some (.lst xs):=λxs e=>by
   rw[Hout tna] at e;rcases hO0 a with z | ⟨o,ys,z⟩
   .rw [z] at e;cases e
   .rw [z] at e;cases e
  have hok:HOk P w H O3.heap:=λb u e=>by
   cases z:(tblT tl).lookup b with
   | some qq =>
    rw[Hat z] at e;cases e;obtain⟨_,_,e2⟩:=tat z;exact⟨#[],e2,trivial,λpos cv z=>by cases (show (none:Option Value)=some cv from z)⟩
   | none =>
    rw[Hout z] at e;exact(hok0 b u e).stay (λ_ _ _ q=>q) (λ_ q=>H0t q) (λ_ _ q=>H0t q) λ_ _ _ q _=>H0t q
  have hT:zH8 K H:=λx hx c P e=>Hat (by
   have e2:=htl x hx;rw[e] at e2;exact zEp hnd (PySem.mem_of_lookup e2.symm))
  have split:∀ {b:Addr},H b≠none->((tblT tl).lookup b=none/\b=a/\H0 a≠none)\/∃ qq,(tblT tl).lookup b=some qq:=λ{b} e=>by
   cases z:(tblT tl).lookup b with
   | some qq=>exact .inr ⟨qq,rfl⟩
   | none =>
    rw[Hout z] at e;have:=hA0 b e;exact .inl ⟨rfl,this,by rw[<- this];exact e⟩
  have base_of:∀ {b:Addr} {o:Obj},O3.heap.get? b=some o->H b=none->(hidT O3.heap H).get? b=some o:=λe n=>zLq e n
  have noA:∀ {b:Addr} {o:Obj} {es:Array DictEntry} {ep:Nat},O3.heap.get? b=some o->o.data=.dict es ep->H b=none:=λ{b o es ep} e d=>by
   cases q:H b with
   | none=>rfl
   | some u =>
    rcases split (b:=b) (by rw[q];simp) with ⟨_,e',_⟩ | ⟨qq,z⟩
    .subst e';rw[ha] at e;cases e;have d':Data.seq vs.toArray _=Data.dict es ep:=d;cases d'
    .obtain ⟨_,_,e2⟩:=tat z;rw[e2] at e;cases e;cases (show Data.fields #[]=Data.dict es ep from d)
  have noM:∀ {b:Addr} {o:Obj},O3.heap.get? b=some o->o.cls=.type "module"->H b=none:=λ{b o} e d=>by
   cases q:H b with
   | none=>rfl
   | some u =>
    rcases split (b:=b) (by rw[q];simp) with ⟨_,e',_⟩ | ⟨qq,z⟩
    .subst e';rw[ha] at e;cases e;exact absurd (show Value.type "list"=Value.type "module" from d) (by decide)
    .obtain ⟨_,_,e2⟩:=tat z;rw[e2] at e;cases e;exact absurd (show Value.none=Value.type "module" from d) (by decide)
  have nsK:∀ {b:Addr} {m:Str->Option Value},O3.heap.Ns b m->(hidT O3.heap H).Ns b m:=λ{b m} ⟨o,es,ep,e,d,r⟩=>⟨o,es,ep,base_of e (noA e d),d,r⟩
  have hKb:K.In (hidT O3.heap H):=λb o e=>base_of (KX b o e) (by
   cases q:H b with
   | none=>rfl
   | some u =>
    rcases split (b:=b) (by rw[q];simp) with ⟨_,e',n0⟩ | ⟨qq,z⟩
    .subst e';rw[hK0 n0] at e;cases e
    .obtain ⟨_,_,e2⟩:=tat z;have e3:=KX b o e;rw[e2] at e3;cases e3;have h2:=all_eq_true.mp hnt (b,W.tabObj #[]) (W.mem_of_lookupK e);exact absurd (show false=true from h2) qX)
  have hM:Mod K mg (hidT O3.heap H):=⟨hKb,nsK hns,⟨mb,nsK hb,hbb⟩,let ⟨mc,h1,h2⟩:=hlim;⟨mc,nsK h1,h2⟩,⟨let ⟨mc,h1,h2⟩:=hsr.statics;⟨mc,nsK h1,h2⟩,let ⟨mc,h1,h2⟩:=hsr.mods;⟨mc,nsK h1,h2⟩,let ⟨mc,h1,h2⟩:=hsr.imp;⟨mc,nsK h1,h2⟩,let ⟨mc,bm,ob,h1,h2,h3,h4,h5⟩:=hsr.main;⟨mc,bm,ob,nsK h1,h2,base_of h3 (noM h3 h4),h4,h5⟩⟩,let ⟨bm,ob,b1,b2,b3,b4,b5⟩:=hbm;⟨bm,ob,b1,b2,base_of b3 (noM b3 b4),b4,b5⟩,λx hx c P e=>by
   have e2:=htl x hx;rw[e] at e2;obtain⟨o,vs',file,tf,flags,tg,inF,text,tt,g1,g2,g3,g4,g5,g6,g7,g8,g9,g10⟩:=(htab (x,c,P) (PySem.mem_of_lookup e2.symm)).1;refine⟨o,vs',file,tf,flags,tg,inF,text,tt,base_of g1 ?_,g2,g3,g4,g5,g6,g7,g8,g9,g10⟩;cases q:H c with
   | none=>rfl
   | some u =>
    rcases split (b:=c) (by rw[q];simp) with ⟨_,e',_⟩ | ⟨qq,z⟩
    .subst e';rw[ha] at g1;cases g1;exact absurd (show Value.type "list"=Value.type "code" from g2) (by decide)
    .obtain ⟨_,_,e2⟩:=tat z;rw[e2] at g1;cases g1;exact absurd (show Value.none=Value.type "code" from g2) (by decide)⟩
  have e0:Env0 P w K mg (hidT O3.heap H) callerA [] O3 H:=⟨rfl,hM,λb o e=>zOG e,Nat.le_of_eq (zJu _ _),trivial,λb hb=>absurd (show b∈([]:List Addr) from hb) (by simp),hok,.of_eq hg,htr,hT⟩;refine codeAny_mono ((F _ hKb (nsK hns)).run callerA [] O3 H ⟨[.ref a],[]⟩ [.ref a] [.ref a] _ _ hr e0 (hbind O3 (.ref a)) (.cons rfl .nil) (hsp H hL hS)) λr s' h=>?_
  cases r with
  | error e=>exact(hCX H e s' h).elim
  | ok fl =>
   cases fl with
   | next=>exact False.elim h
   | brk=>exact False.elim h
   | cont=>exact False.elim h
   | ret u =>
    obtain⟨v,H',os,bare,un,hok',r',q⟩:=h;have q':v=.bl true:=q;subst q';obtain rfl:u=Value.bool true:=r';have key:∀ b o,O3.heap.get? b=some o->asItWas O3.heap s'.heap b o/\∃ o',s'.heap.get? b=some o':=λb o e=>by
     cases z:(tblT tl).lookup b with
     | some qq =>
      obtain⟨c,C,e2⟩:=tat z;rw[e] at e2;cases e2;obtain⟨ps,e3,_⟩:=hok' b _ (un.tbls b _ (Hat z));exact⟨.inr (.inl ⟨(C.tab e).isCodeTable,rfl,#[],ps,rfl,by rw[e3];simp⟩),_,e3⟩
     | none =>
      have k:s'.heap.get? b=some o:=by
       cases q:H b with
       | none=>exact un.keep b o e q (by intro z;exact absurd (show b∈([]:List Addr) from z) (by simp)) (by simp)
       | some u =>
        rcases hO0 b with y | ⟨ob,xs,y⟩
        .rw [Hout z,y] at q;cases q
        .have y1:=H0t y;have z2:=un.frzs b ob _ y1;obtain⟨e1,_⟩:=hok b _ y1;obtain⟨e2,_⟩:=hok' b _ z2;rw[e] at e1;cases e1;exact e2
      exact⟨.inl k,o,k⟩
    exact⟨rfl,⟨λb o e=>(key b o e).1,λb o e=>(key b o e).2⟩,os,bare⟩
 cases hk:K.lookup a with
 | some o =>
  have e:=KX a o hk;rw[ha] at e;cases e;refine core (λ_=>none) (λ_=>.inl rfl) (.inr ⟨_,vs.toArray,_,hk,rfl,rfl,rfl,by rw[xy,lenV];exact hl,by simpa using rv⟩) (λb u z=>by have z':(none:Option HO)=some u:=z;cases z') (λb z=>absurd rfl z) λz=>absurd rfl z
 | none =>
  refine core (λb=>if b=a then some (.frz { cls:=.type "list",data:=.seq vs.toArray } (.lst (ns.map V.int))) else none) (λb=>?_) (.inl (.inr ⟨{ cls:=.type "list",data:=.seq vs.toArray },if_pos rfl⟩)) (λb u z=>?_) (λb z=>?_) λ_=>hk
  .by_cases hb:b=a
   .exact .inr ⟨_,_,if_pos hb⟩
   .exact .inl (if_neg hb)
  .by_cases hb:b=a
   .have z':=(if_pos hb).symm.trans z;cases z';subst hb;exact⟨ha,by rw[List.length_map];exact hl,vs,_,rv,ha⟩
   .have z':=(if_neg hb).symm.trans z;cases z'
  .by_cases hb:b=a
   .exact hb
   .exact absurd (if_neg hb) z
end L2
namespace L2
open PySem Spec PyProof.Rows
theorem zNd {l:W.OpenLaw}{K:Params->W.Frag}{CX:World->CXT}{sp:World->Sp}
  (hn:l.most=some n) (hn2:n<=sizeLine) (hdf:d.params.defaults=[]) (hq:importsNone q=true) (ht:∀ w,(model l.prog w).prog.given.tree=none) (hr:Room k callerA) (tl:List (Str×Addr×Addr)) (hrec:∀ (w:World) (h:Heap),YP w h->∀ t∈tl,W.CodeHd h t.2.1 t.2.2/\h.get? t.2.2=some (W.tabObj #[])) (htl:∀ w:World,∀ x∈zCB,tabQ (K w.params) x=tl.lookup x) (htk:∀ t∈tl,t.1∈zCB/\tl.lookup t.1=some t.2) (hnd:(tl.map λt=>t.2.2).Nodup) (hnt:∀ w:World,W.noTabs (K w.params)=true)
  (hY:∀ (w:World) (h:Heap),YP w h->(K w.params).In h)
  (F:∀ (w:World) (mg:Str->Option Value) (fa:Addr) (h:Heap),(K w.params).In h->h.Ns mainGlobals mg->mg d.name=some (.ref fa) ->
   ∃ fd:FuncData,(∀ (s:Shared) (u:Value),BindsTo s fd ⟨[u],[]⟩ [(x,u)]) /\
    ∀ base:Heap,(K w.params).In base->base.Ns mainGlobals mg->FnOk l.prog w (K w.params) mg base (CX w) k fa fd [x] (sp w))
  (hsp:∀ (w:World) (H:Hp) (a:Addr) (ns:List Int),(ns.length<=n/\∀ x∈ns,Builtin.Int.intBits x<=2^20)->(∀ xs,H a≠some (.lst xs))->SqL (K w.params) H a (ns.map V.int)->sp w [.ref a] H (λv _=>v=.bl true) λ_ _ _=>False)
  (hCX:∀ (w:World) (H:Hp) (s:Shared) (e:Value) (s':Shared),CX w [] H s (λ_ _ _=>False) e s'->False) :
  W.WalkO q loose XP YP l.row.toRowW d [] (λf vs=>PySem.call f vs):=by
 refine Att.zHK hn hdf λw s0 O3 mg mb fa o pm cd doc a vs ns G Y ho hd hcd hmg hobj hints hlen hg=>?_
 have KX:=hY w _ Y;obtain⟨fd,hb,hF⟩:=F w mg fa _ KX G.T.g hmg;exact zLi KX G.T.g G.T.b G.T.builtins G.T.nolimit (G.T.seer hq) (ht w) hg hobj hints (le_trans hlen.1 hn2) hr hF hb G.T.bmain (hrec w _ Y) (htl w) hnd (hnt w) (λH hL hS=>hsp w H a ns hlen hL hS) λH e s'=>hCX w H O3 e s'
noncomputable def zAI (s:Stmt)(j:Nat):Stmt:=match s with
 | .ClassDef _ _ _ body _ _ _ _ _ _ _=>body.getD j (.Pass ⟨0,0,0,0⟩)
 | _=>.Pass ⟨0,0,0,0⟩
noncomputable def zAp (s:Stmt):Arguments:=match s with
 | .FunctionDef _ a _ _ _ _ _ _ _ _=>a
 | _=>{ posonlyargs:=[],args:=[],vararg:=none,kwonlyargs:=[],kw_defaults:=[],kwarg:=none,defaults:=[] }
noncomputable def zAK (s:Stmt):List Stmt:=match s with
 | .FunctionDef _ _ b _ _ _ _ _ _ _=>b
 | _=>[]
noncomputable def zAA (s:Stmt):Scope:=match s with
 | .FunctionDef _ _ _ _ _ _ sc _ _ _=>sc
 | _=>{ kind:=.function,names:=[],isGenerator:=false,isCoroutine:=false }
abbrev CX0:CXT:=λ_ _ _ _ _ _=>False
abbrev E0:XK:=λ_ _ _=>False
theorem zIJ :zE2 CX0 X E0:=λ_ _ _ _ _ _ _ h=>h.elim
structure Fun (K:W.Frag)(x qual:Str)(st:Stmt)(f:Addr)(fd:FuncData):Prop where
 ex:∃ (oc:Value) (od:Option Addr) (kV doc pm:Value) (an:Option Addr) (cdv ct:Value) (osl:Array (Option Value)),
  fd=W.fnOf x qual (zAp st) (zAK st) (zAA st) .none kV doc pm an cdv ct/\K.lookup f=some ⟨oc,od,.func fd,osl⟩/\W.codeIn K cdv qual=true
 kp:W.keepIn K (.ref f)=true
section
variable {P:Program}{w:World}{K:W.Frag}{mg:Str->Option Value}{base:Heap}
theorem Fun.ok {st:Stmt}(F:Fun K x qual st f fd)(S:zAq N ps (zAA st))(len:∀ vs H Q E,sp vs H Q E->vs.length=ps.length)
  (hbody:∀ (cdv:Value) (A:Around) (outer:List Env) (s:Shared) (H:Hp) (vs:List V) (Q:VK) (E:XK),Room k (A.deeper (envOfC qual (zAA st) s.heap.objs.size f cdv))->sp vs H Q E ->
   ∃ t,PSs (cxOf CX0 P w K mg base N qual (zAA st) f cdv A outer s H E).nox (zAK st) t/\t { nx:=λ_ H'=>Q .non H',rt:=Q } (zCL N vs) H):FnOk P w K mg base CX0 (k+1) f fd ps sp:=by
 obtain⟨oc,od,kV,doc,pm,an,cdv,ct,osl,rfl,lk,hcd⟩:=F.ex;refine zRm lk hcd S len λA outer s H vs Q E hr hsp=>?_
 obtain⟨t,h,q⟩:=hbody cdv A outer s H vs Q E hr hsp;exact⟨t,h.nox,q⟩
theorem Fun.binds {st:Stmt}(F:Fun K x qual st f fd)
  (h:∀ (kV doc pm:Value) (an:Option Addr) (cdv ct:Value) (us:List Value),us.length=ps.length->bindArgs (W.fnOf x qual (zAp st) (zAK st) (zAA st) .none kV doc pm an cdv ct) ⟨us,[]⟩=pure (ps.zip us)):zBb K fd ps []:=by
 obtain⟨oc,od,kV,doc,pm,an,cdv,ct,osl,rfl,lk,hcd⟩:=F.ex;exact .all (h kV doc pm an cdv ct)
theorem zJ8 {st:Stmt}{kV:Value}(l:K.lookup f=some ⟨oc,od,.func (W.fnOf x qual (zAp st) (zAK st) (zAA st) .none kV doc pm an cdv ct),osl⟩)
  (c:W.codeIn K cdv qual=true) (k:W.keepIn K (.ref f)=true):Fun K x qual st f (W.fnOf x qual (zAp st) (zAK st) (zAA st) .none kV doc pm an cdv ct):=⟨⟨oc,od,kV,doc,pm,an,cdv,ct,osl,rfl,l,c⟩,k⟩
end
theorem zIx (h:n<=1000):n < sizeLine:=Nat.lt_of_le_of_lt h (by decide)
theorem iteF {B:Prop}(h:B):if false=true then A else B:=by grind
theorem iteT {B:Prop}(h:A):if true=true then A else B:=by simp_all
def Same (H H':Hp):Prop:=∀ b o,H b=some o->H' b=some o
theorem Same.refl (H:Hp):Same H H:=λ_ _ h=>h
theorem Same.trans (a:Same H H1)(b:Same H1 H2):Same H H2:=λc o h=>b c o (a c o h)
theorem Same.free (e:Same H H')(h:H' l=Option.none):H l=Option.none:=by
 cases q:H l with
 | none=>rfl
 | some o =>
  rw[e l o q] at h;omega
theorem Same.seq {K:W.Frag}(e:Same H H')(h:SqL K H a xs):SqL K H' a xs:=by
 rcases h with (h | ⟨o,h⟩) | h
 .exact .inl (.inl (e _ _ h))
 .exact .inl (.inr ⟨o,e _ _ h⟩)
 .exact .inr h
end L2
end
section
namespace DL
open PySem Spec PyProof.Rows L2
abbrev St:=L2.St
abbrev anyU:HO:=.ext λ_=>True
structure LamI where
 qual:Str
 params:Arguments
 body:Expr
 scope:Scope
noncomputable def frN (L:LamI):List Str:=((L.scope.names.filter λp=>p.2==.free).map (·.1)).reverse
def zBl (H:Hp):List (Str×Addr)->List V->Prop:=Paired λp v=>∃ o u,H p.2=some (.frz o anyU)/\o.data=.cell (some u)/\RelV v u
def zDn (H:Hp)(L:LamI)(f:Addr)(vs:List V):Prop:=∃ cl pm c ctv oc u1,H f=some (.frz (W.kla_obj "<lambda>" L.qual L.params L.body L.scope cl pm c ctv) anyU)/\H c=some (.frz oc u1)/\zK3 oc L.qual/\cl.map (·.1)=frN L/\(cl.map (·.2)).Nodup/\zBl H cl vs
noncomputable def zFQ:List Str:=["shape","ink","strength","layer","layers"]
noncomputable def zKi (ns:List Str):Bool:=(ns.any λn=>n==("strength":Str)||n==("layer":Str))&&ns.all λn=>zFQ.contains n
noncomputable def zEJ (fs:List (Str×V)):Bool:=zKi (fs.map (·.1))
abbrev zCq (H H':Hp):Prop:=∀ b o,H b=some o->(∀ C dx fs,o=.ins C dx fs->zEJ fs=true)->H' b=some o
theorem zBl.monoF (e:zCq H H')(h:zBl H cl vs):zBl H' cl vs:=Paired.mapP h λ_ _ zy153=>by obtain⟨o,u,h1,h2⟩:=zy153;exact⟨o,u,e _ _ h1 (λ_ _ _ z=>nomatch z),h2⟩
theorem zDn.monoF (e:zCq H H')(h:zDn H L f vs):zDn H' L f vs:=by
 obtain⟨cl,pm,c,ctv,oc,u1,h1,h2,h3,h4,h5,h6⟩:=h;exact⟨cl,pm,c,ctv,oc,u1,e _ _ h1 (λ_ _ _ z=>nomatch z),e _ _ h2 (λ_ _ _ z=>nomatch z),h3,h4,h5,h6.monoF e⟩
theorem zDn.mono (e:Same H H')(h:zDn H L f vs):zDn H' L f vs:=h.monoF λb o q _=>e b o q
inductive D where
 | non | bl (b:Bool) | int (i:Int) | str (x:Str) | tup (l:List D) | lst (l:List D) | exc (c:Str) | dct (ks:List (Int×Int)) | lam (j:Nat) (L:LamI) (l:List D) | obj (c:Str) (ns:List Str) (l:List D) | fn (n:Nat) (x:Str)
noncomputable instance:Inhabited D:=⟨.non⟩
def zB0 (K:W.Frag)(c:Str)(C:Addr):Prop:=W.nsIn K mainGlobals c=some (some (.ref C))
def zK1 (K:W.Frag)(H:Hp)(c:Str)(ns:List Str)(a:Addr)(vs:List V):Prop:=∃ C dx gs,H a=some (.ins C dx gs)/\zEJ gs=true/\zB0 K c C/\(ns.map λn=>gs.lookup n)=vs.map some
theorem zK1.monoF {K:W.Frag}(e:zCq H H')(h:zK1 K H c ns a vs):zK1 K H' c ns a vs :=
 let ⟨C,dx,gs,h1,h2,h3⟩:=h;⟨C,dx,gs,e _ _ h1 λ_ _ _ z=>by cases z;exact h2,h2,h3⟩
noncomputable def pk (p:Int×Int):List Key:=[Sum.inl p.1,Sum.inl p.2]
mutual
noncomputable def Den (K:W.Frag)(H:Hp):D->V->Prop
 | .non,v=>v=.non
 | .bl b,v=>v=.bl b
 | .int i,v=>v=.int i
 | .str x,v=>v=.str x
 | .tup ds,v=>∃ a vs,v=.ref a/\SqT K H a vs/\DenL K H ds vs
 | .lst ds,v=>∃ a vs,v=.ref a/\SqL K H a vs/\DenL K H ds vs
 | .exc c,v=>∃ a o u C,v=.ref a/\H a=some (.frz o u)/\o.cls=.ref C/\(∃ vs,o.data=.fields vs)/\zB0 K c C
 | .dct ks,v=>∃ a kvs,v=.ref a/\H a=some (.dT kvs)/\kvs.map (·.1)=ks.map pk
 | .lam _ L ds,v=>∃ a vs,v=.ref a/\zDn H L a vs/\DenL K H ds vs
 | .obj c ns ds,v=>∃ a vs,v=.ref a/\zK1 K H c ns a vs/\DenL K H ds vs
 | .fn _ x,v=>∃ a,v=.ref a/\zB0 K x a
noncomputable def DenL (K:W.Frag)(H:Hp):List D->List V->Prop
 | [],vs=>vs=[]
 | d::ds,vs=>∃ v ws,vs=v::ws/\Den K H d v/\DenL K H ds ws
end
theorem Same.tupS {K:W.Frag}(e:Same H H')(h:SqT K H a xs):SqT K H' a xs:=by
 rcases h with (h | ⟨o,h⟩) | h
 .exact .inl (.inl (e _ _ h))
 .exact .inl (.inr ⟨o,e _ _ h⟩)
 .exact .inr h
theorem zCq.tupS {K:W.Frag}(e:zCq H H')(h:SqT K H a xs):SqT K H' a xs:=by
 rcases h with (h | ⟨o,h⟩) | h
 .exact .inl (.inl (e _ _ h λ_ _ _ z=>nomatch z))
 .exact .inl (.inr ⟨o,e _ _ h λ_ _ _ z=>nomatch z⟩)
 .exact .inr h
theorem zCq.seq {K:W.Frag}(e:zCq H H')(h:SqL K H a xs):SqL K H' a xs:=by
 rcases h with (h | ⟨o,h⟩) | h
 .exact .inl (.inl (e _ _ h λ_ _ _ z=>nomatch z))
 .exact .inl (.inr ⟨o,e _ _ h λ_ _ _ z=>nomatch z⟩)
 .exact .inr h
section
variable {K:W.Frag}{H H':Hp}
mutual
theorem Den.monoF (e:zCq H H'):∀ {d:D} {v:V},Den K H d v->Den K H' d v
 | .non,_,h=>by rw[Den] at h ⊢;exact h
 | .bl _,_,h=>by rw[Den] at h ⊢;exact h
 | .int _,_,h=>by rw[Den] at h ⊢;exact h
 | .str _,_,h=>by rw[Den] at h ⊢;exact h
 | .tup ds,_,h=>by
  rw[Den] at h ⊢;obtain⟨a,vs,h1,h2,h3⟩:=h;exact⟨a,vs,h1,zCq.tupS e h2,DenL.monoF e h3⟩
 | .lst ds,_,h=>by
  rw[Den] at h ⊢;obtain⟨a,vs,h1,h2,h3⟩:=h;exact⟨a,vs,h1,zCq.seq e h2,DenL.monoF e h3⟩
 | .exc c,_,h=>by
  rw[Den] at h ⊢;obtain⟨a,o,u,C,h1,h2,h3⟩:=h;exact⟨a,o,u,C,h1,e _ _ h2 (λ_ _ _ z=>nomatch z),h3⟩
 | .dct ks,_,h=>by
  rw[Den] at h ⊢;obtain⟨a,kvs,h1,h2,h3⟩:=h;exact⟨a,kvs,h1,e _ _ h2 (λ_ _ _ z=>nomatch z),h3⟩
 | .lam _ L ds,_,h=>by
  rw[Den] at h ⊢;obtain⟨a,vs,h1,h2,h3⟩:=h;exact⟨a,vs,h1,h2.monoF e,DenL.monoF e h3⟩
 | .obj c ns ds,_,h=>by
  rw[Den] at h ⊢;obtain⟨a,vs,h1,h2,h3⟩:=h;exact⟨a,vs,h1,h2.monoF e,DenL.monoF e h3⟩
 | .fn _ x,_,h=>by rw[Den] at h ⊢;exact h
theorem DenL.monoF (e:zCq H H'):∀ {ds:List D} {vs:List V},DenL K H ds vs->DenL K H' ds vs
 | [],_,h=>by rw[DenL] at h ⊢;exact h
 | d::ds,_,h=>by
  rw[DenL] at h ⊢;obtain⟨v,ws,h1,h2,h3⟩:=h;exact⟨v,ws,h1,Den.monoF e h2,DenL.monoF e h3⟩
end
theorem Den.mono (e:Same H H')(h:Den K H d v):Den K H' d v:=h.monoF λb o q _=>e b o q
theorem DenL.mono (e:Same H H')(h:DenL K H ds vs):DenL K H' ds vs:=h.monoF λb o q _=>e b o q
theorem DenL.nil:DenL K H [] []:=rfl
theorem DenL.cons (h:Den K H d v)(t:DenL K H ds vs):DenL K H (d::ds) (v::vs):=⟨v,vs,rfl,h,t⟩
theorem DenL.length:∀ {ds:List D} {vs:List V},DenL K H ds vs->ds.length=vs.length
 | [],_,h=>by rw[DenL] at h;rw[h];rfl
 | _::ds,_,h=>by
  rw[DenL] at h;obtain⟨v,ws,h1,h2,h3⟩:=h;rw[h1,xY,xY,DenL.length h3]
theorem DenL.get:∀ {ds:List D} {vs:List V} {i:Nat} {d:D},DenL K H ds vs->ds[i]?=some d->∃ v,vs[i]?=some v/\Den K H d v
 | [],_,_,_,_,e=>by simp at e
 | x::ds,_,i,d,h,e=>by
  rw[DenL] at h;obtain⟨v,ws,h1,h2,h3⟩:=h;subst h1;cases i with
  | zero=>simp at e;subst e;exact⟨v,by simp,h2⟩
  | succ i =>
   obtain⟨u,q1,q2⟩:=DenL.get (i:=i) (d:=d) h3 (by simpa using e);exact⟨u,by simpa using q1,q2⟩
theorem DenL.of_get:∀ {ds:List D} {vs:List V},ds.length=vs.length->(∀ (i:Nat) d v,ds[i]?=some d->vs[i]?=some v->Den K H d v)->DenL K H ds vs
 | [],[],_,_=>.nil
 | [],_::_,e,_=>by simp at e
 | _::_,[],e,_=>by simp at e
 | d::ds,v::vs,e,h=>.cons (h 0 d v (by simp) (by simp)) (DenL.of_get (by simpa using e) λi d' v' q1 q2=>h (i+1) d' v' (by simpa using q1) (by simpa using q2))
theorem DenL.append:∀ {ds es:List D} {vs ws:List V},DenL K H ds vs->DenL K H es ws->DenL K H (ds++es) (vs++ws)
 | [],_,_,_,h,t=>by rw[DenL] at h;subst h;exact t
 | _::ds,_,_,_,h,t=>by
  rw[DenL] at h;obtain⟨v,ws,h1,h2,h3⟩:=h;subst h1;exact .cons h2 (DenL.append h3 t)
theorem DenL.take:∀ {ds:List D} {vs:List V} (n:Nat),DenL K H ds vs->DenL K H (ds.take n) (vs.take n)
 | _,_,0,_=>by rw[List.take_zero,List.take_zero];exact .nil
 | [],_,n+1,h=>by rw[DenL] at h;subst h;exact .nil
 | _::ds,_,n+1,h=>by
  rw[DenL] at h;obtain⟨v,ws,h1,h2,h3⟩:=h;subst h1;rw[List.take_succ_cons,List.take_succ_cons];exact .cons h2 (DenL.take n h3)
theorem DenL.drop:∀ {ds:List D} {vs:List V} (n:Nat),DenL K H ds vs->DenL K H (ds.drop n) (vs.drop n)
 | _,_,0,h=>h
 | [],_,n+1,h=>by rw[DenL] at h;subst h;exact .nil
 | _::ds,_,n+1,h=>by
  rw[DenL] at h;obtain⟨v,ws,h1,h2,h3⟩:=h;subst h1;rw[List.drop_succ_cons,List.drop_succ_cons];exact DenL.drop n h3
theorem DenL.set (hd:Den K H d v):∀ {ds:List D} {vs:List V} (n:Nat),DenL K H ds vs->DenL K H (ds.set n d) (vs.set n v)
 | [],_,n,h=>by rw[DenL] at h;subst h;exact .nil
 | _::ds,_,n,h=>by
  rw[DenL] at h;obtain⟨u,ws,h1,h2,h3⟩:=h;subst h1;cases n with
  | zero=>exact .cons hd h3
  | succ n=>exact .cons h2 (DenL.set hd n h3)
theorem DenL.ints:∀ ns:List Int,DenL K H (ns.map D.int) (ns.map V.int)
 | []=>.nil
 | n::ns=>.cons (by rw[Den]) (DenL.ints ns)
end
noncomputable def hide (H:Hp)(S:List Addr):Hp:=λb=>if b∈S then none else H b
section
variable {H H':Hp}{S:List Addr}{a b:Addr}{o:HO}
theorem zCT (h:b∈S):hide H S b=none:=if_pos h
theorem zAT (h:b∉S):hide H S b=H b:=if_neg h
theorem zA9 (h:hide H S b=some o):b∉S/\H b=some o:=by
 unfold hide at h;grind
theorem zAt:Same (hide H S) H:=λ_ _ h=>(zA9 h).2
theorem zAU (e:Same H H'):Same (hide H S) (hide H' S):=λb o h=>by
 obtain⟨h1,h2⟩:=zA9 h;rw[zAT h1];exact e _ _ h2
theorem zCG (h:∀ b∈S,b∈T):Same (hide H T) (hide H S):=λb o q=>by
 obtain⟨h1,h2⟩:=zA9 q;rw[zAT λz=>h1 (h b z)];exact h2
theorem zDt (e:Same H H')(n:H a=none):Same (hide H S) (hide H' (a::S)):=λb o q=>by
 obtain⟨h1,h2⟩:=zA9 q;rw[zAT λz=>(mem_cons.mp z).elim (zAy h2 n) h1];exact e _ _ h2
theorem zC1:hide H []=H:=rfl
theorem zFW (h:a∈S):hide (upd H a o) S=hide H S:=by
 funext b;by_cases q:b∈S
 .rw [zCT q,zCT q]
 .rw [zAT q,zAT q,zAN λz=>q (by rw[z];exact h)]
theorem zAf (h:H p=none)(o:HO):Same H (upd H p o):=λb u q=>by rw[zAN (zAy q h)];exact q
end
inductive Kd where
 | cl | fr | dt
 deriving DecidableEq
abbrev R:=D×Kd
abbrev Dst:=List (Option (D×Bool))
def RV (K:W.Frag)(H H':Hp)(S:List Addr):R->V->Prop
 | (d,.cl),v=>Den K (hide H' S) d v
 | (d,.fr),v=>∃ a vs ds,v=.ref a/\d=.lst ds/\a∉S/\H a=none/\H' a=some (.lst vs)/\DenL K (hide H' (a::S)) ds vs
 | (d,.dt),v=>∃ a vs ds,v=.ref a/\d=.lst ds/\SqL K H' a vs/\DenL K (hide H' S) ds vs
def Rdv (K:W.Frag)(H:Hp)(S:List Addr)(d:D)(v:V):Prop :=
 Den K (hide H S) d v\/∃ a vs ds,v=.ref a/\d=.lst ds/\SqL K H a vs/\DenL K (hide H S) ds vs
section
variable {K:W.Frag}{H H1 H':Hp}{S:List Addr}{d:D}{v:V}{r:R}
theorem RV.clean (h:RV K H H' S (d,.fr) v):Den K (hide H' S) d v:=by
 obtain⟨a,vs,ds,rfl,rfl,na,_,ha,t⟩:=h;exact⟨a,vs,rfl,SqL.of (by rw[zAT na];exact ha),t.mono (zCG λb z=>qY _ z)⟩
theorem RV.den (h:RV K H H' S (d,k) v)(hk:k≠.dt):Den K (hide H' S) d v:=by
 cases k with
 | cl=>exact h
 | fr=>exact h.clean
 | dt=>exact absurd rfl hk
theorem RV.rd (h:RV K H H' S r v):Rdv K H' S r.1 v:=by
 obtain⟨d,k⟩:=r;cases k with
 | cl=>exact .inl h
 | fr=>exact .inl h.clean
 | dt=>exact .inr h
theorem RV.from (e:Same H H1)(h:RV K H1 H' S r v):RV K H H' S r v:=by
 obtain⟨d,k⟩:=r;cases k with
 | cl=>exact h
 | fr =>
  obtain⟨a,vs,ds,e1,e2,e3,e4,e5⟩:=h;exact⟨a,vs,ds,e1,e2,e3,e.free e4,e5⟩
 | dt=>exact h
theorem Rdv.mono (e:Same H H')(h:Rdv K H S d v):Rdv K H' S d v:=by
 rcases h with h | ⟨a,vs,ds,h1,h2,h3,h4⟩
 .exact .inl (h.mono (zAU e))
 .exact .inr ⟨a,vs,ds,h1,h2,e.seq h3,h4.mono (zAU e)⟩
theorem Rdv.int (h:Rdv K H S (.int i) v):v=.int i:=by
 rcases h with h | _
 .exact h
 .grind
theorem Rdv.bl (h:Rdv K H S (.bl b) v):v=.bl b:=by
 rcases h with h | _
 .exact h
 .grind
theorem Rdv.str (h:Rdv K H S (.str x) v):v=.str x:=by
 rcases h with h | _
 .exact h
 .grind
theorem Rdv.lst (h:Rdv K H S (.lst ds) v):∃ a vs,v=.ref a/\SqL K H a vs/\DenL K (hide H S) ds vs:=by
 rcases h with h | ⟨a,vs,ds',h1,h2,h3,h4⟩
 .rw [Den] at h;obtain⟨a,vs,h1,h2,h3⟩:=h;exact⟨a,vs,h1,zAt.seq h2,h3⟩
 .cases h2;exact⟨a,vs,h1,h3,h4⟩
theorem Rdv.tup (h:Rdv K H S (.tup ds) v):∃ a vs,v=.ref a/\SqT K H a vs/\DenL K (hide H S) ds vs:=by
 rcases h with h | ⟨a,vs,ds',h1,h2,h3,h4⟩
 .rw [Den] at h;obtain⟨a,vs,h1,h2,h3⟩:=h;exact⟨a,vs,h1,Same.tupS zAt h2,h3⟩
 .cases h2
theorem Rdv.dct (h:Rdv K H S (.dct ks) v):∃ a kvs,v=.ref a/\H a=some (.dT kvs)/\kvs.map (·.1)=ks.map pk:=by
 rcases h with h | ⟨a,vs,ds',h1,h2,h3,h4⟩
 .rw [Den] at h;obtain⟨a,kvs,h1,h2,h3⟩:=h;exact⟨a,kvs,h1,zAt _ _ h2,h3⟩
 .cases h2
theorem RV.int (i:Int):RV K H H' S (.int i,.cl) (.int i):=rfl
theorem RV.bl (b:Bool):RV K H H' S (.bl b,.cl) (.bl b):=rfl
end
def MuB:HO->Prop
 | .lst _=>True
 | .dT _=>True
 | _=>False
def OwnO (K:W.Frag)(H:Hp):D->HO->Prop
 | .lst ds,o=>∃ vs,o=.lst vs/\DenL K H ds vs
 | .dct ks,o=>∃ kvs,o=.dT kvs/\kvs.map (·.1)=ks.map pk
 | _,_=>False
theorem OwnO.mono {K:W.Frag}(e:Same H H')(h:OwnO K H d o):OwnO K H' d o:=by
 cases d with
 | lst ds=>obtain⟨vs,h1,h2⟩:=h;exact⟨vs,h1,h2.mono e⟩
 | dct ks=>exact h
 | non=>exact h
 | bl _=>exact h
 | int _=>exact h
 | str _=>exact h
 | tup _=>exact h
 | exc _=>exact h
 | lam _ _ _=>exact h
 | obj _ _ _=>exact h
 | fn _ _=>exact h
theorem OwnO.mu {K:W.Frag}(h:OwnO K H d o):MuB o:=by
 cases d with
 | lst ds=>obtain⟨vs,rfl,_⟩:=h;exact True.intro
 | dct ks=>obtain⟨kvs,rfl,_⟩:=h;exact True.intro
 | non=>cases h
 | bl _=>cases h
 | int _=>cases h
 | str _=>cases h
 | tup _=>cases h
 | exc _=>cases h
 | lam _ _ _=>cases h
 | obj _ _ _=>cases h
 | fn _ _=>cases h
theorem OwnO.den {K:W.Frag}(h:OwnO K H d o)(e:H a=some o):Den K H d (.ref a):=by
 cases d with
 | lst ds=>obtain⟨vs,rfl,h2⟩:=h;exact⟨a,vs,rfl,SqL.of e,h2⟩
 | dct ks=>obtain⟨kvs,rfl,h2⟩:=h;exact⟨a,kvs,rfl,e,h2⟩
 | non=>cases h
 | bl _=>cases h
 | int _=>cases h
 | str _=>cases h
 | tup _=>cases h
 | exc _=>cases h
 | lam _ _ _=>cases h
 | obj _ _ _=>cases h
 | fn _ _=>cases h
def SV (K:W.Frag)(H:Hp)(S:List Addr)(d:D)(o:Bool)(v:V):Prop :=
 if o=true then ∃ a u,v=.ref a/\a∈S/\H a=some u/\OwnO K (hide H S) d u else Den K (hide H S) d v
structure DS (K:W.Frag)(H:Hp)(S:List Addr)(B:St)(O:Dst):Prop where
 len:B.length=O.length
 sok:∀ a∈S,∃ xs:HO,H a=some xs/\MuB xs
 get:∀ (i:Nat) d o,O[i]?=some (some (d,o))->∃ v,B[i]?=some (some v)/\SV K H S d o v
 inj:∀ (i j:Nat) d e a,O[i]?=some (some (d,true))->O[j]?=some (some (e,true))->B[i]?=some (some (.ref a))->B[j]?=some (some (.ref a))->i=j
section
variable {K:W.Frag}{H H1 H':Hp}{S:List Addr}{B:St}{O:Dst}{d:D}{v:V}{i:Nat}
theorem SV.own (h:SV K H S d o v)(ho:o=true):∃ a u,v=.ref a/\a∈S/\H a=some u/\OwnO K (hide H S) d u:=by
 unfold SV at h;rw[if_pos ho] at h;exact h
theorem SV.ownL (h:SV K H S (.lst ds) o v)(ho:o=true):∃ a vs es,v=.ref a/\D.lst ds=.lst es/\a∈S/\H a=some (.lst vs)/\DenL K (hide H S) es vs:=by
 obtain⟨a,u,h1,h2,h3,vs,rfl,h5⟩:=h.own ho;exact⟨a,vs,ds,h1,rfl,h2,h3,h5⟩
theorem SV.den (h:SV K H S d o v)(ho:o=false):Den K (hide H S) d v:=by
 unfold SV at h;rw[if_neg (by simp_all)] at h;exact h
theorem SV.of_den (h:Den K (hide H S) d v):SV K H S d false v:=by assumption
theorem SV.of_own (h1:a∈S)(h2:H a=some u)(h3:OwnO K (hide H S) d u):SV K H S d true (.ref a):=⟨a,u,rfl,h1,h2,h3⟩
theorem SV.mono (e:Same H H')(h:SV K H S d o v):SV K H' S d o v:=by
 cases o with
 | true =>
  obtain⟨a,u,rfl,h1,h2,h3⟩:=h.own rfl;exact .of_own h1 (e _ _ h2) (h3.mono (zAU e))
 | false=>exact .of_den ((h.den rfl).mono (zAU e))
theorem DS.mono (h:DS K H S B O)(e:Same H H'):DS K H' S B O :=
 ⟨h.len,λa z=>let ⟨xs,q,mu⟩:=h.sok a z;⟨xs,e _ _ q,mu⟩,λi d o z=>let ⟨v,q1,q2⟩:=h.get i d o z;⟨v,q1,q2.mono e⟩,h.inj⟩
theorem zBg {U:Type}{l:List U}{i:Nat}{x:U}(h:i < l.length):(l.set i x)[i]?=some x:=by simp[h]
theorem zBs {U:Type}{l:List U}{i j:Nat}{x:U}(h:i≠j):(l.set i x)[j]?=l[j]?:=by simp_all
theorem zAe {U:Type}{l:List U}{i j:Nat}{x y:U}(h:(l.set i x)[j]?=some y):(i=j/\y=x/\i < l.length)\/(i≠j/\l[j]?=some y):=by
 by_cases e:i=j
 .subst e;by_cases q:i < l.length
  .simp_all
  .simp_all
 .simp_all
theorem DS.set (h:DS K H S B O)(hd:Den K (hide H S) d v):DS K H S (B.set i (some v)) (O.set i (some (d,false))):=by
 refine⟨by rw[length_set,length_set];exact h.len,h.sok,λj e o q=>?_,λj k e f a q1 q2 q3 q4=>?_⟩
 .rcases zAe q with ⟨rfl,z,hl⟩ | ⟨ne,z⟩
  .cases z;exact⟨v,zBg (by rw[h.len];exact hl),.of_den hd⟩
  .obtain _:=h.get j e o z
   simp_all
 .rcases zAe q1 with ⟨_,z,_⟩ | ⟨ne1,z1⟩
  .cases z
  .rcases zAe q2 with ⟨_,z,_⟩ | ⟨ne2,z2⟩
   .cases z
   .rw [zBs ne1] at q3
    simp_all
    exact h.inj j k e f a z1 z2 q3 q4
theorem DS.setG (h:DS K H S B O)(e:Same H H')(n:H a=none)(ha:H' a=some u)(t:OwnO K (hide H' (a::S)) d u) :
  DS K H' (a::S) (B.set i (some (.ref a))) (O.set i (some (d,true))):=by
 refine⟨by rw[length_set,length_set];exact h.len,λb z=>?_,λj e' o q=>?_,λj k e' f b q1 q2 q3 q4=>?_⟩
 .rcases mem_cons.mp z with rfl | z
  .exact ⟨_,ha,t.mu⟩
  .obtain ⟨xs,q,mu⟩:=h.sok b z;exact⟨xs,e _ _ q,mu⟩
 .rcases zAe q with ⟨rfl,z,hl⟩ | ⟨ne,z⟩
  .cases z;exact⟨.ref a,zBg (by rw[h.len];exact hl),.of_own q8 ha t⟩
  .obtain ⟨u,q1,q2⟩:=h.get j e' o z;refine⟨u,by rw[zBs ne];exact q1,?_⟩;cases o with
   | true =>
    obtain⟨b,w,rfl,w1,w2,w3⟩:=q2.own rfl;exact .of_own (qY _ w1) (e _ _ w2) (w3.mono (zDt e n))
   | false=>exact .of_den ((q2.den rfl).mono (zDt e n))
 .have old:∀ {j:Nat} {x:D},i≠j->O[j]?=some (some (x,true))->B[j]?=some (some (.ref a))->False:=λ{j x} ne z q=>by
   obtain⟨u,q1,q2⟩:=h.get j x true z;obtain⟨b,w,rfl,w1,w2,_⟩:=q2.own rfl;grind
  rcases zAe q1 with ⟨e1,z1,l1⟩ | ⟨ne1,z1⟩
  .rcases zAe q2 with ⟨e2,z2,l2⟩ | ⟨ne2,z2⟩
   .exact e1.symm.trans e2
   .rw [<- e1,zBg (by rw[h.len];exact l1)] at q3;cases q3;rw[zBs ne2] at q4;exact(old ne2 z2 q4).elim
  .rcases zAe q2 with ⟨e2,z2,l2⟩ | ⟨ne2,z2⟩
   .rw [<- e2,zBg (by rw[h.len];exact l2)] at q4;cases q4;rw[zBs ne1] at q3;exact(old ne1 z1 q3).elim
   .rw [zBs ne1] at q3;rw[zBs ne2] at q4;exact h.inj j k e' f b z1 z2 q3 q4
theorem DS.setF (h:DS K H S B O)(e:Same H H')(n:H a=none)(ha:H' a=some (.lst vs))(t:DenL K (hide H' (a::S)) ds vs) :
  DS K H' (a::S) (B.set i (some (.ref a))) (O.set i (some (.lst ds,true))):=h.setG e n ha ⟨vs,rfl,t⟩
theorem DS.changeG (h:DS K H S B O)(hi:O[i]?=some (some (d,true)))(hv:B[i]?=some (some (.ref a)))(t:OwnO K (hide H S) e0 u) :
  DS K (upd H a u) S B (O.set i (some (e0,true))):=by
 obtain⟨w,q1,q2⟩:=h.get i _ true hi;obtain⟨b,ws,e1,aS,w2,_⟩:=q2.own rfl;subst e1;rw[hv] at q1;cases q1;have hh:hide (upd H a u) S=hide H S:=zFW aS;refine⟨by rw[length_set];exact h.len,λb z=>?_,λj e' o q=>?_,λj k e' f b q1 q2 q3 q4=>?_⟩
 .by_cases q:b=a
  .subst q;exact⟨_,zAX,t.mu⟩
  .rw [zAN q];exact h.sok b z
 .rcases zAe q with ⟨rfl,z,hl⟩ | ⟨ne,z⟩
  .cases z;exact⟨.ref a,hv,.of_own aS zAX (by rw[hh];exact t)⟩
  .obtain ⟨w,q1,q2⟩:=h.get j e' o z
   simp_all
   cases o with
   | true =>
    obtain⟨b,ws',rfl,w1,w2',w3⟩:=q2.own rfl;exact .of_own w1 (by rw[zAN (λz2=>by subst z2;exact ne (h.inj i j _ _ b hi z hv q1))];exact w2') (by rw[hh];exact w3)
   | false=>exact .of_den (by rw[hh];exact q2.den rfl)
 .have back:∀ {j:Nat} {x:D},(O.set i (some (e0,true)))[j]?=some (some (x,true))->∃ y,O[j]?=some (some (y,true)):=λ{j x} z=>by
   rcases zAe z with ⟨e1,_,_⟩ | ⟨_,z⟩
   .rw [<- e1];exact⟨_,hi⟩
   .exact ⟨_,z⟩
  obtain⟨y1,z1⟩:=back q1;obtain⟨y2,z2⟩:=back q2;exact h.inj j k y1 y2 b z1 z2 q3 q4
theorem DS.change (h:DS K H S B O)(hi:O[i]?=some (some (.lst ds,true)))(hv:B[i]?=some (some (.ref a)))(t:DenL K (hide H S) es vs) :
  DS K (upd H a (.lst vs)) S B (O.set i (some (.lst es,true))):=h.changeG hi hv ⟨vs,rfl,t⟩
theorem DS.freeze (h:DS K H S B O)(hi:O[i]?=some (some (d,true))):∃ S',(∀ b∈S',b∈S)/\DS K H S' B (O.set i (some (d,false))):=by
 obtain⟨u,q1,q2⟩:=h.get i _ true hi;obtain⟨a,w,rfl,aS,w2,w3⟩:=q2.own rfl;have sub:∀ b∈S.filter (λb=>decide (b≠a)),b∈S:=λb z=>(mem_filter.mp z).1
 refine⟨S.filter (λb=>decide (b≠a)),sub,?_⟩;have hs:Same (hide H S) _:=zCG sub;refine⟨by rw[length_set];exact h.len,λb z=>h.sok b (sub b z),λj e' o q=>?_,λj k e' f b z1 z2 q3 q4=>?_⟩
 .rcases zAe q with ⟨rfl,z,hl⟩ | ⟨ne,z⟩
  .cases z;exact⟨.ref a,q1,.of_den ((w3.mono hs).den (by rw[zAT (λz=>by simpa using (mem_filter.mp z).2)];exact w2))⟩
  .obtain ⟨u,p1,p2⟩:=h.get j e' o z;refine⟨u,p1,?_⟩;cases o with
   | true =>
    obtain⟨b,ws',rfl,w1,w2',w3'⟩:=p2.own rfl;have nb:b≠a:=λz2=>by subst z2;exact ne (h.inj i j _ _ b hi z q1 p1)
    exact .of_own (mem_filter.mpr ⟨w1,by simpa using nb⟩) w2' (w3'.mono hs)
   | false=>exact .of_den ((p2.den rfl).mono hs)
 .rcases zAe z1 with ⟨_,z,_⟩ | ⟨_,z1⟩
  .cases z
  .rcases zAe z2 with ⟨_,z,_⟩ | ⟨_,z2⟩
   .cases z
   .exact h.inj j k e' f b z1 z2 q3 q4
end
def gT (K:W.Frag)(f:Dst->Option R):TE:=λB H Q=>∃ S O r,DS K H S B O/\f O=some r/\∀ v H',Same H H'->RV K H H' S r v->Q v H'
def gB (K:W.Frag)(f:Dst->Option Bool):TT:=λB H Q=>∃ S O b,DS K H S B O/\f O=some b/\∀ H',Same H H'->Q b H'
def gA (K:W.Frag)(f:Dst->Option (List D)):TA:=λB H Q=>∃ S O ds,DS K H S B O/\f O=some ds/\∀ vs H',Same H H'->DenL K (hide H' S) ds vs->Q vs H'
def GE (X:Cx)(e:Expr)(f:Dst->Option R):Prop:=PE X e (gT X.K f)
def GT (X:Cx)(e:Expr)(f:Dst->Option Bool):Prop:=PT X e (gB X.K f)
def GA (X:Cx)(es:List Expr)(f:Dst->Option (List D)):Prop:=PA X es (gA X.K f)
theorem _root_.L2.PE.imp (h:PE X e t)(i:∀ B H Q,t' B H Q->t B H Q):PE X e t':=λpins s B H Q I q=>h pins s B H Q I (i B H Q q)
theorem _root_.L2.PT.imp (h:PT X e t)(i:∀ B H Q,t' B H Q->t B H Q):PT X e t':=λpins s B H Q I q=>h pins s B H Q I (i B H Q q)
theorem _root_.L2.PA.imp (h:PA X e t)(i:∀ B H Q,t' B H Q->t B H Q):PA X e t':=λpos pins s B H Q I q=>h pos pins s B H Q I (i B H Q q)
theorem bind_some {U Z:Type}{o:Option U}{f:U->Option Z}{b:Z}(h:(o.bind f)=some b):∃ a,o=some a/\f a=some b:=by
 cases o with
 | none=>cases h
 | some a=>exact⟨a,rfl,h⟩
section
variable {X:Cx}
def OpD (K:W.Frag)(r:R2)(o:D->D->Option R):Prop :=
 ∀ (S:List Addr) (H:Hp) (x y:D) (z:R) (vx vy:V) (Q:VK),(∀ a∈S,∃ xs:HO,H a=some xs/\MuB xs)->o x y=some z->Rdv K H S x vx->Rdv K H S y vy->(∀ v H',Same H H'->RV K H H' S z v->Q v H')->r vx vy H Q
noncomputable def two (f g:Dst->Option R)(o:D->D->Option R):Dst->Option R:=λO=>(f O).bind λx=>(g O).bind λy=>o x.1 y.1
theorem zHY {r:R2}{o:D->D->Option R}{f g:Dst->Option R}(h:OpD X.K r o){B:St}{H:Hp}{Q:VK}(q:gT X.K (two f g o) B H Q):tOp r (gT X.K f) (gT X.K g) B H Q:=by
 obtain⟨S,O,z,ds,e,c⟩:=q;obtain⟨x,ex,e⟩:=bind_some e;obtain⟨y,ey,e⟩:=bind_some e;refine⟨S,O,x,ds,ex,λvx H1 s1 r1=>⟨S,O,y,ds.mono s1,ey,λvy H2 s2 r2=>?_⟩⟩;exact h S H2 x.1 y.1 z vx vy Q (ds.mono (s1.trans s2)).sok e (r1.rd.mono s2) r2.rd λv H' s3 r3=>c v H' (s1.trans (s2.trans s3)) (r3.from (s1.trans s2))
theorem zId (ho:OpR X (binaryOp op) r)(h:OpD X.K r o)(ha:GE X a f)(hb:GE X b g):GE X (.BinOp a op b pos) (two f g o) :=
 (zSY ho ha hb).imp λ_ _ _ q=>zHY h q
theorem zRd (ho:OpR X (compareOp op) r)(h:OpD X.K r o)(hm:behindInMarks op b=false)(ha:GE X a f)(hb:GE X b g):GE X (.Compare a [op] [b] pos) (two f g o) :=
 (zJD ho ha hb hm).imp λ_ _ _ q=>zHY h q
noncomputable def asB (f:Dst->Option R):Dst->Option Bool:=λO=>match f O with
 | some (.bl b,_)=>some b
 | _=>none
theorem zCa (h:asB f O=some b):∃ k,f O=some (.bl b,k):=by
 unfold asB at h;split at h
 .simp_all
 .cases h
theorem zG0 {f:Dst->Option R}{B:St}{H:Hp}{Q:Bool->Hp->Prop}(q:gB X.K (asB f) B H Q):gT X.K f B H λx H'=>∃ k,x=.bl k/\Q k H':=by
 obtain⟨S,O,b,ds,e,c⟩:=q;obtain⟨k,e⟩:=zCa e;refine⟨S,O,_,ds,e,λv H' s1 r1=>⟨b,r1.rd.bl,c H' s1⟩⟩
theorem zRA (ho:OpR X (compareOp op) r)(h:OpD X.K r o)(hm:behindInMarks op b=false)(ha:GE X a f)(hb:GE X b g):GT X (.Compare a [op] [b] pos) (asB (two f g o)) :=
 (zGi ho ha hb hm).imp λ_ _ _ q=>zHY h (zG0 q)
theorem zQ7 (h:GE X e f)(he:∀ whole,isTrue e X.env whole=(do let v<-whole;standAt e.pos;holding [v] (truthy v))):GT X e (asB f) :=
 (zMw h he).imp λ_ _ _ q=>zG0 q
noncomputable def lstB:D->Bool
 | .lst _=>true
 | _=>false
noncomputable def varD (i:Nat):Dst->Option R:=λO=>match O[i]? with
 | some (some (d,o))=>if o=true then (if lstB d=true then some (d,.dt) else none) else some (d,.cl)
 | _=>none
theorem zRT (hN:X.N[i]?=some x)(hv:Vis X.env.scope x)(hd:(x==("__debug__":Str))=false)(hcd:(x==("__classdict__":Str))=false) :
  GE X (.Name x pos) (varD i):=by
 refine(zDb hN hv hd hcd).imp λB H Q q=>?_
 obtain⟨S,O,z,ds,e,c⟩:=q;unfold varD at e;split at e
 .rename_i d o q;obtain⟨v,q1,q2⟩:=ds.get i d o q;cases o with
  | false =>
   cases e;exact⟨v,q1,c v H (Same.refl _) (q2.den rfl)⟩
  | true =>
   rw[if_pos rfl] at e;cases d with
   | lst xs =>
    cases e;refine⟨v,q1,c v H (Same.refl _) ?_⟩;obtain⟨a,vs,es,rfl,e2,_,w2,w3⟩:=q2.ownL rfl;exact⟨a,vs,es,rfl,e2,SqL.of w2,w3⟩
   | _=>cases e
 .cases e
theorem zFZ (h:PE X e (tC v))(hd:∀ K H,Den K H d v):GE X e (λ_=>some (d,.cl)) :=
 h.imp λB H Q zz42=>by
  obtain⟨S,O,z,ds,e,c⟩:=zz42;cases e;exact c v H (Same.refl _) (hd _ _)
theorem ge_int {j pos}:GE X (.Constant (.int i) j pos) (λ_=>some (.int i,.cl)):=zFZ zQN λ_ _=>by rw[Den]
theorem zS0 {j pos}:GE X (.Constant (.bool b) j pos) (λ_=>some (.bl b,.cl)):=zFZ zSZ λ_ _=>by rw[Den]
theorem zRX {j pos}:GE X (.Constant .none j pos) (λ_=>some (.non,.cl)):=zFZ zQL λ_ _=>by rw[Den]
theorem zOz (hg:Gl X x)(hm:X.mg x=some u)(r:RelV v u)(hd:Den X.K (λ_=>none) d v)(hdb:(x==("__debug__":Str))=false):GE X (.Name x pos) (λ_=>some (d,.cl)) :=
 (zN0 hg hm r hdb).imp λB H Q zz43=>by
  obtain⟨S,O,z,ds,e,c⟩:=zz43;cases e;exact c v H (Same.refl _) (hd.mono λb o q=>by cases q)
theorem zGm {g:Int->Int->Int}(h:∀ x y z,o x y=some z->∃ i j,x=.int i/\y=.int j/\C i j/\z=(.int (g i j),.cl)):OpD X.K (rI C λi j=>.int (g i j)) o:=by
 intro S H x y z vx vy Q _ e rx ry c;obtain⟨i,j,rfl,rfl,hc,rfl⟩:=h x y z e;exact⟨i,j,rx.int,ry.int,hc,c _ H (Same.refl _) (.int _)⟩
theorem zLV {g:Int->Int->Int}(h:∀ x y z,o x y=some z->∃ i j,x=.int i/\y=.int j/\z=(.int (g i j),.cl)):OpD X.K (rI0 λi j=>.int (g i j)) o:=by
 intro S H x y z vx vy Q _ e rx ry c;obtain⟨i,j,rfl,rfl,rfl⟩:=h x y z e;exact⟨i,j,rx.int,ry.int,c _ H (Same.refl _) (.int _)⟩
theorem zBf {g:Int->Int->Bool}(h:∀ x y z,o x y=some z->∃ i j,x=.int i/\y=.int j/\z=(.bl (g i j),.cl)):OpD X.K (rI0 λi j=>.bl (g i j)) o:=by
 intro S H x y z vx vy Q _ e rx ry c;obtain⟨i,j,rfl,rfl,rfl⟩:=h x y z e;exact⟨i,j,rx.int,ry.int,c _ H (Same.refl _) (.bl _)⟩
theorem zOA:OpR X (binaryOp .Mult) (rI IntMulOk λi j=>.int (i*j)):=opI λ_ _ _ _ _ _ _ hc q=>mul_int q hc
def zMl (_ j:Int):Prop:=j≠0
theorem zJg {pins:List (Addr×Obj)}{s:Shared}{B:St}{H:Hp}(I:Inv X pins B H s):PylongRoom (model X.prog X.w) X.A s:=by
 obtain⟨h1,h2,e,l,h3,h4,h5,h6,h7⟩:=I.ok.pyl;exact PylongRoom.of I.nolimit h1 (SeerAt.of (I.mod.seer.keeps I.bk) h2 (by rw[I.ok.frames,h3]) h4 h5 h6 h7)
theorem zLW:OpR X (binaryOp .FloorDiv) (rI zMl λi j=>.int (i.fdiv j)):=by
 intro pins s B H x y v u Q I rx ry h;obtain⟨i,j,rfl,rfl,hc,q⟩:=h;obtain⟨t,rfl⟩:=rx;obtain⟨t',rfl⟩:=ry;exact floordiv_int hc ⟨.int (i.fdiv j),H,I.tok _,⟨_,rfl⟩,q⟩ (.inr (zJg I))
theorem zF8 (l:Addr)(items:Array Value)(n:Nat)(dd:Option Addr)(sl:Array (Option Value))(b:Addr)(items2:Array Value)(n2:Nat)(dd2:Option Addr)(sl2:Array (Option Value))(hc0:items.size+items2.size<=sizeLine) :
  Meets (Builtin.«list.__add__» ⟨[.ref l,.ref b],[]⟩) (λ_ R s=>s.heap.get? l=some { cls:=.type "list",dict:=dd,data:=.seq items n,slots:=sl }/\s.heap.get? b=some { cls:=.type "list",dict:=dd2,data:=.seq items2 n2,slots:=sl2 }/\R (.ok (.ret (Value.ref s.heap.objs.size))) { s with heap:=s.heap.push { cls:=Value.type "list",data:=Data.seq (items++items2) },toks:=s.toks }) :=
 .of_wp λprog w A R s h=>by obtain⟨hp,g,d,tk,os⟩:=s;obtain⟨hl,hb,h⟩:=h;have f3:=AutoSeq1.sub_list_list;wp_walk using AutoSeq1.wpAny_loadPart' hl,AutoSeq1.wpAny_loadPart' hb;exact⟨_,rfl,h⟩
end
mutual
noncomputable def toPy:D->PyData
 | .non=>.none
 | .bl b=>.bool b
 | .int i=>.int i
 | .str x=>.str x
 | .tup ds=>.tuple (toPyL ds)
 | .lst ds=>.list (toPyL ds)
 | .exc _=>.str ⟨#[1114112]⟩
 | .dct _=>.str ⟨#[1114112]⟩
 | .lam _ _ _=>.str ⟨#[1114112]⟩
 | .obj _ _ _=>.str ⟨#[1114112]⟩
 | .fn _ _=>.str ⟨#[1114112]⟩
noncomputable def toPyL:List D->List PyData
 | []=>[]
 | d::ds=>toPy d::toPyL ds
end
theorem Rdv.whole {K:W.Frag}(h:Rdv K H S d v):Den K H d v:=by
 rcases h with h | ⟨a,vs,ds,rfl,rfl,h1,h2⟩
 .exact h.mono zAt
 .exact ⟨a,vs,rfl,h1,h2.mono zAt⟩
section
variable {X:Cx}{pins:List (Addr×Obj)}{B:St}{H:Hp}{s:Shared}
mutual
theorem zDK (I:Inv X pins B H s):∀ {d:D} {v:V} {u:Value},Den X.K H d v->RelV v u->(toPy d).canLay0=true->∃ as,Reads s.heap u (toPy d) as
 | .non,_,_,h,r,_=>by rw[Den] at h;subst h;cases r;rw[toPy];exact⟨_,.none⟩
 | .bl b,_,_,h,r,_=>by rw[Den] at h;subst h;cases r;rw[toPy];exact⟨_,.bool b⟩
 | .int i,_,_,h,r,_=>by rw[Den] at h;subst h;obtain⟨t,rfl⟩:=r;rw[toPy];exact⟨_,.int i t⟩
 | .str x,_,_,h,r,_=>by rw[Den] at h;subst h;obtain⟨t,rfl⟩:=r;rw[toPy];exact⟨_,.str x t⟩
 | .tup ds,_,_,h,r,cl=>by
  rw[toPy,PyData.canLay0] at cl;rw[Den] at h;obtain⟨a,vs,rfl,h1,h2⟩:=h;cases r;obtain⟨its,rv,⟨o,e1,e2,n,e3⟩,_⟩:=I.tuple h1;obtain⟨as,q⟩:=readsL_of I h2 rv cl;rw[toPy];exact⟨_,.tuple e1 e2 e3 q⟩
 | .exc c,_,_,h,r,cl=>by rw[toPy,PyData.canLay0] at cl;exact absurd cl (by decide +kernel)
 | .dct c,_,_,h,r,cl=>by rw[toPy,PyData.canLay0] at cl;exact absurd cl (by decide +kernel)
 | .lam _ _ _,_,_,h,r,cl=>by rw[toPy,PyData.canLay0] at cl;exact absurd cl (by decide +kernel)
 | .obj _ _ _,_,_,h,r,cl=>by rw[toPy,PyData.canLay0] at cl;exact absurd cl (by decide +kernel)
 | .fn _ _,_,_,h,r,cl=>by rw[toPy,PyData.canLay0] at cl;exact absurd cl (by decide +kernel)
 | .lst ds,_,_,h,r,cl=>by
  rw[toPy,PyData.canLay0] at cl;rw[Den] at h;obtain⟨a,vs,rfl,h1,h2⟩:=h;cases r;obtain⟨its,rv,⟨o,n,e1,e2,_,e3⟩,_⟩:=I.list h1;obtain⟨as,q⟩:=readsL_of I h2 rv cl;rw[toPy];exact⟨_,.list e1 e2 e3 q⟩
theorem readsL_of (I:Inv X pins B H s):∀ {ds:List D} {vs:List V} {us:List Value},DenL X.K H ds vs->Vals vs us->PyData.canLayAll0 (toPyL ds)=true->∃ as,ReadsAll s.heap us (toPyL ds) as
 | [],_,_,h,r,_=>by rw[DenL] at h;subst h;cases r;rw[toPyL];exact⟨_,.nil⟩
 | d::ds,_,_,h,r,cl=>by
  rw[toPyL,PyData.canLayAll0,x8] at cl;rw[DenL] at h;obtain⟨v,ws,rfl,h1,h2⟩:=h;cases r with
  | cons r1 r2 =>
   obtain⟨a1,q1⟩:=zDK I h1 r1 cl.1;obtain⟨a2,q2⟩:=readsL_of I h2 r2 cl.2;rw[toPyL];exact⟨_,.cons q1 q2⟩
end
end
def EqOk (x y:D):Prop:=(toPy x).canLay0=true/\(toPy y).canLay0=true/\(toPy x).depth<=64
noncomputable instance (x y:D):Decidable (EqOk x y):=by unfold EqOk;exact inferInstance
noncomputable def eqb (x y:D):Bool:=PyData.eqv (toPy x) (toPy y)
def rEqD (K:W.Frag)(f:Bool->Bool):R2:=λvx vy H Q=>∃ x y,Den K H x vx/\Den K H y vy/\EqOk x y/\Q (.bl (f (eqb x y))) H
section
variable {X:Cx}
theorem zQd (hu:X.A.units+64 < cLine):OpR X (compareOp .Eq) (rEqD X.K id):=by
 intro pins s B H x y v u Q I rx ry h;obtain⟨d,e,hd,he,⟨o1,o2,o3⟩,q⟩:=h;obtain⟨as,r1⟩:=zDK I hd rx o1;obtain⟨bs,r2⟩:=zDK I he ry o2;exact SeqAt.rcAt_reads r1 r2 o1 o2 (by omega) X.prog X.w _ _ ⟨.bl _,H,I,rfl,q⟩
theorem zQX (hu:X.A.units+64 < cLine):OpR X (compareOp .NotEq) (rEqD X.K (λb=>!b)):=by
 intro pins s B H x y v u Q I rx ry h;obtain⟨d,e,hd,he,⟨o1,o2,o3⟩,q⟩:=h;obtain⟨as,r1⟩:=zDK I hd rx o1;obtain⟨bs,r2⟩:=zDK I he ry o2;exact SeqAt.rcNeAt_reads r1 r2 o1 o2 (by omega) X.prog X.w _ _ ⟨.bl _,H,I,rfl,q⟩
def eqD (f:Bool->Bool)(x y:D):Option R:=if EqOk x y then some (.bl (f (eqb x y)),.cl) else none
theorem zM5 :OpD X.K (rEqD X.K f) (eqD f):=by
 intro S H x y z vx vy Q _ e rx ry c;unfold eqD at e;by_cases ok:EqOk x y
 .rw [if_pos ok] at e;cases e;exact⟨x,y,rx.whole,ry.whole,ok,c _ H (Same.refl _) (.bl _)⟩
 .simp_all
noncomputable def nonB:D->Bool
 | .non=>true
 | _=>false
noncomputable def isN (f:Bool->Bool)(x y:D):Option R:=match y with
 | .non=>some (.bl (f (nonB x)),.cl)
 | _=>none
theorem zKn {K:W.Frag}(h:Den K H x v):decide (v=.non)=nonB x:=by
 cases x with
 | non=>rw[Den] at h;subst h;rfl
 | bl b=>rw[Den] at h;subst h;rfl
 | int i=>rw[Den] at h;subst h;rfl
 | str i=>rw[Den] at h;subst h;rfl
 | tup ds=>rw[Den] at h;obtain⟨a,vs,rfl,_⟩:=h;rfl
 | lst ds=>rw[Den] at h;obtain⟨a,vs,rfl,_⟩:=h;rfl
 | exc c=>rw[Den] at h;obtain⟨a,o,u,C,rfl,_⟩:=h;rfl
 | dct c=>rw[Den] at h;obtain⟨a,kvs,rfl,_⟩:=h;rfl
 | lam _ _ _=>rw[Den] at h;obtain⟨a,vs,rfl,_⟩:=h;rfl
 | obj _ _ _=>rw[Den] at h;obtain⟨a,vs,rfl,_⟩:=h;rfl
 | fn _ _=>rw[Den] at h;obtain⟨a,rfl,_⟩:=h;rfl
theorem zN6:OpD X.K (λx y H Q=>y=.non/\Q (.bl (decide (x=.non))) H) (isN id):=by
 intro S H x y z vx vy Q _ e rx ry c;cases y with
 | non =>
  cases e;exact⟨ry.whole,by rw[zKn rx.whole];exact c _ H (Same.refl _) (.bl _)⟩
 | _=>cases e
theorem zLU:OpD X.K (λx y H Q=>y=.non/\Q (.bl (!decide (x=.non))) H) (isN (λb=>!b)):=by
 intro S H x y z vx vy Q _ e rx ry c;cases y with
 | non =>
  cases e;exact⟨ry.whole,by rw[zKn rx.whole];exact c _ H (Same.refl _) (.bl _)⟩
 | _=>cases e
theorem DenL.atI {K:W.Frag}(h:DenL K H ds vs)(e:atI ds i=some d):∃ v,L2.atI vs i=some v/\Den K H d v:=by
 unfold L2.atI at e ⊢;obtain⟨j,e1,e2⟩:=bind_some e;obtain⟨v,q1,q2⟩:=h.get e2;refine⟨v,?_,q2⟩;rw[<- h.length,e1];exact q1
noncomputable def ixD (x y:D):Option R:=match x,y with
 | .lst ds,.int i=>(atI ds i).map λd=>(d,.cl)
 | .tup ds,.int i=>(atI ds i).map λd=>(d,.cl)
 | _,_=>none
theorem zQS:OpD X.K (λx y H Q=>rIxL X.K x y H Q\/rIxT X.K x y H Q) ixD:=by
 intro S H x y z vx vy Q _ e rx ry c;unfold ixD at e;split at e
 .rename_i ds i;obtain⟨d,e1,rfl⟩:=x9.mp e;obtain⟨a,vs,rfl,h1,h2⟩:=rx.lst;obtain⟨v,q1,q2⟩:=h2.atI e1;exact .inl ⟨a,vs,i,v,rfl,ry.int,h1,q1,c v H (Same.refl _) q2⟩
 .rename_i ds i;obtain⟨d,e1,rfl⟩:=x9.mp e;obtain⟨a,vs,rfl,h1,h2⟩:=rx.tup;obtain⟨v,q1,q2⟩:=h2.atI e1;exact .inr ⟨a,vs,i,v,rfl,ry.int,h1,q1,c v H (Same.refl _) q2⟩
 .cases e
theorem zSx (ha:GE X a f)(hb:GE X b g)(hs:zFj b):GE X (.Subscript a b pos) (two f g ixD) :=
 (zQM (zJo.or zNI) ha hb hs).imp λ_ _ _ q=>zHY zQS q
theorem zRh:GA X [] (λ_=>some []):=zA2.imp λB H Q zz44=>by
 obtain⟨S,O,z,ds,e,c⟩:=zz44;cases e;exact c [] H (Same.refl _) .nil
noncomputable def zHC (f:Dst->Option R)(g:Dst->Option (List D)):Dst->Option (List D):=λO=>(f O).bind λx=>if x.2=.dt then none else (g O).bind λxs=>some (x.1::xs)
theorem zO6 (ha:GE X e f)(hr:GA X es g)(hs:starEach (e::es) X.env=(false,eval e X.env)::starEach es X.env):GA X (e::es) (zHC f g):=by
 refine(zAa ha hr hs).imp λB H Q zz45=>?_
 obtain⟨S,O,z,ds,e,c⟩:=zz45;obtain⟨x,ex,e⟩:=bind_some e;by_cases hx:x.2=.dt
 .simp_all
 simp_all
 obtain⟨xs,exs,e⟩:=bind_some e;cases e;refine⟨S,O,x,ds,ex,λv H1 s1 r1=>⟨S,O,xs,ds.mono s1,exs,λvs H2 s2 r2=>?_⟩⟩;exact c _ H2 (s1.trans s2) (.cons ((RV.den (k:=x.2) r1 hx).mono (zAU s2)) r2)
noncomputable def tupD (g:Dst->Option (List D)):Dst->Option R:=λO=>(g O).bind λxs=>if xs.length<=10000 then some (.tup xs,.cl) else none
noncomputable def lstD (g:Dst->Option (List D)):Dst->Option R:=λO=>(g O).bind λxs=>if xs.length<=10000 then some (.lst xs,.fr) else none
theorem zCe (h:n<=10000):n<=sizeLine:=le_trans h (by decide)
theorem notS {H:Hp}{S:List Addr}(h:∀ a∈S,∃ xs:HO,H a=some xs/\MuB xs)(n:H p=none):p∉S:=by grind
theorem RV.tupNew {K:W.Frag}(hS:∀ a∈S,∃ xs:HO,H1 a=some xs/\MuB xs)(n:H1 p=none)(t:DenL K (hide H1 S) ds vs):RV K H (upd H1 p (.tup vs)) S (.tup ds,.cl) (.ref p):=⟨p,vs,rfl,SqT.of (by rw[zAT (notS hS n)];exact zAX),t.mono (zAU (zAf n _))⟩
theorem RV.lstNew {K:W.Frag}(e:Same H H1)(hS:∀ a∈S,∃ xs:HO,H1 a=some xs/\MuB xs)(n:H1 p=none)(t:DenL K (hide H1 S) ds vs):RV K H (upd H1 p (.lst vs)) S (.lst ds,.fr) (.ref p) :=
 ⟨p,vs,ds,rfl,rfl,notS hS n,e.free n,zAX,t.mono (zDt (zAf n _) n)⟩
theorem zRU {x1}(h:GA X es g):GE X (.Tuple es x1 pos) (tupD g):=by
 refine(zM1 h).imp λB H Q zz46=>?_
 obtain⟨S,O,z,ds,e,c⟩:=zz46;obtain⟨xs,exs,e⟩:=bind_some e;by_cases hx:xs.length<=10000
 .rw [if_pos hx] at e;cases e;refine⟨S,O,xs,ds,exs,λvs H1 s1 r1=>⟨by rw[<- r1.length];exact zCe hx,λp n=>?_⟩⟩;exact c _ _ (s1.trans (zAf n _)) (.tupNew (ds.mono s1).sok n r1)
 .simp_all
theorem zRZ (h:GA X es g):GE X (.List es pos) (lstD g):=by
 refine(zM2 h).imp λB H Q zz47=>?_
 obtain⟨S,O,z,ds,e,c⟩:=zz47;obtain⟨xs,exs,e⟩:=bind_some e;by_cases hx:xs.length<=10000
 .rw [if_pos hx] at e;cases e;refine⟨S,O,xs,ds,exs,λvs H1 s1 r1=>⟨by rw[<- r1.length];exact zCe hx,λp n=>?_⟩⟩;exact c _ _ (s1.trans (zAf n _)) (.lstNew s1 (ds.mono s1).sok n r1)
 .simp_all
end
section
variable {X:Cx}
noncomputable def notD (f:Dst->Option R):Dst->Option R:=λO=>(asB f O).bind λb=>some (.bl (!b),.cl)
theorem zG1 (ds:DS X.K H S B O)(e:asB f O=some b)(c:∀ H',Same H H'->Q (.bl b) H'):gT X.K f B H Q:=by
 obtain⟨k,e⟩:=zCa e;exact⟨S,O,_,ds,e,λv H' s1 r1=>by rw[r1.rd.bl];exact c H' s1⟩
theorem zRW (h:GE X a f):GE X (.UnaryOp .Not a pos) (notD f):=by
 refine(zQK h).imp λB H Q zz48=>?_
 obtain⟨S,O,z,ds,e,c⟩:=zz48;obtain⟨b,eb,e⟩:=bind_some e;cases e;exact zG1 ds eb λH' s1=>⟨b,rfl,c _ H' s1 (.bl _)⟩
theorem zPh (h:asB (notD f) O=some b):asB f O=some (!b):=by
 obtain⟨k,e⟩:=zCa h;obtain⟨c,ec,e⟩:=bind_some e
 simp_all
theorem zQ8 (h:GT X a (asB f)):GT X (.UnaryOp .Not a pos) (asB (notD f)) :=
 (zMx h).imp λB H Q zy154=>by obtain⟨S,O,b,ds,e,c⟩:=zy154;exact⟨S,O,!b,ds,zPh e,λH' s1=>by show Q _ H';rw[Bool.not_not];exact c H' s1⟩
noncomputable def andD (f g:Dst->Option R):Dst->Option R:=λO=>(asB f O).bind λb=>if b=true then g O else some (.bl false,.cl)
noncomputable def orD (f g:Dst->Option R):Dst->Option R:=λO=>(asB f O).bind λb=>if b=true then some (.bl true,.cl) else g O
theorem zRg (ha:GE X a f)(hb:GE X (.BoolOp .And (b::rest) pos) g):GE X (.BoolOp .And (a::b::rest) pos) (andD f g):=by
 refine(zQP ha hb).imp λB H Q zz49=>?_
 obtain⟨S,O,z,ds,e,c⟩:=zz49;obtain⟨b,eb,e⟩:=bind_some e;refine zG1 ds eb λH1 s1=>⟨b,rfl,?_⟩
 cases b with
 | true =>
  exact⟨S,O,z,ds.mono s1,e,λv H' s2 r2=>c v H' (s1.trans s2) (r2.from s1)⟩
 | false =>
  cases e;exact c _ H1 s1 (.bl _)
theorem zSw (ha:GE X a f)(hb:GE X (.BoolOp .Or (b::rest) pos) g):GE X (.BoolOp .Or (a::b::rest) pos) (orD f g):=by
 refine(zSX ha hb).imp λB H Q zz50=>?_
 obtain⟨S,O,z,ds,e,c⟩:=zz50;obtain⟨b,eb,e⟩:=bind_some e;refine zG1 ds eb λH1 s1=>⟨b,rfl,?_⟩
 cases b with
 | true =>
  cases e;exact c _ H1 s1 (.bl _)
 | false =>
  exact⟨S,O,z,ds.mono s1,e,λv H' s2 r2=>c v H' (s1.trans s2) (r2.from s1)⟩
theorem zNN {op}(h:GE X a f):GE X (.BoolOp op [a] pos) f:=zQJ h
def GW (X:Cx)(e:Expr)(f:Dst->Option Bool):Prop:=PW X e (gB X.K f)
theorem _root_.L2.PW.imp (h:PW X e t)(i:∀ B H Q,t' B H Q->t B H Q):PW X e t':=λwhole pins s B H Q I q=>h whole pins s B H Q I (i B H Q q)
theorem zIb (h:GT X a f):GW X (.BoolOp .And [a] pos) f:=zI7 h
theorem zJw (h:GT X a f):GW X (.BoolOp .Or [a] pos) f:=zMu h
theorem zPi (h:asB (andD f g) O=some b):(asB f O=some true/\asB g O=some b)\/(asB f O=some false/\b=false):=by
 obtain⟨k,e⟩:=zCa h;obtain⟨c,ec,e⟩:=bind_some e;cases c with
 | true =>
  rw[if_pos rfl] at e;exact .inl ⟨ec,by unfold asB;rw[e]⟩
 | false =>
  grind
theorem zSA (h:asB (orD f g) O=some b):(asB f O=some false/\asB g O=some b)\/(asB f O=some true/\b=true):=by
 obtain⟨k,e⟩:=zCa h;obtain⟨c,ec,e⟩:=bind_some e;cases c with
 | true =>
  grind
 | false =>
  rw[if_neg qX] at e;exact .inl ⟨ec,by unfold asB;rw[e]⟩
theorem zQ5 (ha:GT X a (asB f))(hb:GW X (.BoolOp .And (b::rest) pos) (asB g)):GW X (.BoolOp .And (a::b::rest) pos) (asB (andD f g)):=by
 refine PW.imp (zMv ha hb) λB H Q zz51=>?_
 obtain⟨S,O,b,ds,e,c⟩:=zz51;rcases zPi e with ⟨e1,e2⟩ | ⟨e1,rfl⟩
 .refine ⟨S,O,true,ds,e1,λH1 s1=>?_⟩;exact⟨S,O,b,ds.mono s1,e2,λH' s2=>c H' (s1.trans s2)⟩
 .refine ⟨S,O,false,ds,e1,λH1 s1=>?_⟩
  simp_all
theorem zSq (ha:GT X a (asB f))(hb:GW X (.BoolOp .Or (b::rest) pos) (asB g)):GW X (.BoolOp .Or (a::b::rest) pos) (asB (orD f g)):=by
 refine PW.imp (zQF ha hb) λB H Q zz52=>?_
 obtain⟨S,O,b,ds,e,c⟩:=zz52;rcases zSA e with ⟨e1,e2⟩ | ⟨e1,rfl⟩
 .refine ⟨S,O,false,ds,e1,λH1 s1=>?_⟩;exact⟨S,O,b,ds.mono s1,e2,λH' s2=>c H' (s1.trans s2)⟩
 .refine ⟨S,O,true,ds,e1,λH1 s1=>?_⟩
  simp_all
noncomputable def iteD (c f g:Dst->Option R):Dst->Option R:=λO=>(asB c O).bind λb=>if b=true then f O else g O
theorem zRa (hc:GT X c (asB k))(ha:GE X a f)(hb:GE X b g):GE X (.IfExp c a b pos) (iteD k f g):=by
 refine(zLN hc ha hb).imp λB H Q zz53=>?_
 obtain⟨S,O,z,ds,e,c⟩:=zz53;obtain⟨b,eb,e⟩:=bind_some e;refine⟨S,O,b,ds,eb,λH1 s1=>?_⟩;cases b with
 | true =>
  exact⟨S,O,z,ds.mono s1,e,λv H' s2 r2=>c v H' (s1.trans s2) (r2.from s1)⟩
 | false =>
  exact⟨S,O,z,ds.mono s1,e,λv H' s2 r2=>c v H' (s1.trans s2) (r2.from s1)⟩
theorem zQ9 (hc:GT X c (asB k))(ha:GT X a (asB f))(hb:GT X b (asB g)):GT X (.IfExp c a b pos) (asB (iteD k f g)):=by
 intro pins s B H Q I ⟨S,O,z,ds,e,cc⟩;obtain⟨kk,e⟩:=zCa e;obtain⟨b,eb,e⟩:=bind_some e;refine isTrue_IfExp (thn (hc pins s B H (λb' H1=>b'=b/\Same H H1) I ⟨S,O,b,ds,eb,λH1 s1=>⟨rfl,s1⟩⟩) λd s1 zz54=>?_);obtain⟨H1,I1,q1,w1⟩:=zz54;cases d with
 | true =>
  simp_all
  exact ha pins s1 B H1 Q I1 ⟨S,O,z,ds.mono w1,by unfold asB;rw[e],λH' s2=>cc H' (w1.trans s2)⟩
 | false =>
  simp_all
  exact hb pins s1 B H1 Q I1 ⟨S,O,z,ds.mono w1,by unfold asB;rw[e],λH' s2=>cc H' (w1.trans s2)⟩
noncomputable def negD (f:Dst->Option R):Dst->Option R:=λO=>match f O with
 | some (.int i,_)=>some (.int (-i),.cl)
 | _=>none
theorem zRY (h:GE X a f):GE X (.UnaryOp .USub a pos) (negD f):=by
 refine(zSW zPp h).imp λB H Q zz55=>?_
 obtain⟨S,O,z,ds,e,c⟩:=zz55;unfold negD at e;split at e
 .rename_i i k ei;cases e;exact⟨S,O,_,ds,ei,λv H' s1 r1=>⟨i,r1.rd.int,c _ H' s1 (.int _)⟩⟩
 .cases e
noncomputable def cutD (ds:List D)(lo hi:Option Int):List D:=(ds.drop (HT.sIx ds.length 0 lo)).take (HT.sIx ds.length ds.length hi - HT.sIx ds.length 0 lo)
theorem DenL.cut {K:W.Frag}(h:DenL K H ds vs)(lo hi:Option Int):DenL K H (cutD ds lo hi) (cutV vs lo hi):=by
 unfold cutD cutV;rw[<- h.length];exact(h.drop _).take _
def gO (K:W.Frag)(f:Dst->Option (Option Int)):TO:=λB H Q=>∃ S O o,DS K H S B O/\f O=some o/\∀ H',Same H H'->Q o H'
def GO (X:Cx)(e:Option Expr)(f:Dst->Option (Option Int)):Prop:=PO X e (gO X.K f)
theorem _root_.L2.PO.imp (h:PO X e t)(i:∀ B H Q,t' B H Q->t B H Q):PO X e t':=λpins s B H Q I q=>h pins s B H Q I (i B H Q q)
theorem zOq:GO X none (λ_=>some none):=PO.imp zNy λB H Q zy155=>by obtain⟨S,O,o,ds,e,c⟩:=zy155;cases e;exact c H (Same.refl _)
noncomputable def zGl (f:Dst->Option R):Dst->Option (Option Int):=λO=>match f O with
 | some (.int i,_)=>some (some i)
 | _=>none
theorem zOp (h:GE X e f):GO X (some e) (zGl f):=PO.imp (zNx h) λB H Q zz56=>by
 obtain⟨S,O,o,ds,e,c⟩:=zz56;unfold zGl at e;split at e
 .rename_i i k ei;cases e;exact⟨S,O,_,ds,ei,λv H' s1 r1=>⟨i,r1.rd.int,c H' s1⟩⟩
 .cases e
noncomputable def slD (f:Dst->Option R)(l h:Dst->Option (Option Int)):Dst->Option R:=λO=>(f O).bind λx=>(l O).bind λlo=>(h O).bind λhi=>match x.1 with
 | .lst ds=>some (.lst (cutD ds lo hi),.fr)
 | .tup ds=>if HT.sIx ds.length 0 lo=0/\HT.sIx ds.length ds.length hi=ds.length then none else some (.tup (cutD ds lo hi),.cl)
 | _=>none
theorem zSv {lo:Option Expr}(ha:GE X a f)(hl:GO X lo l)(hh:GO X hi h):GE X (.Subscript a (.Slice lo hi none p2) pos) (slD f l h):=by
 refine(zLL (zNk.or zP5) ha hl hh).imp λB H Q zz57=>?_
 obtain⟨S,O,z,ds,e,c⟩:=zz57;obtain⟨x,ex,e⟩:=bind_some e;obtain⟨lo',el,e⟩:=bind_some e;obtain⟨hi',eh,e⟩:=bind_some e;split at e
 .rename_i es ex2;cases e;refine⟨S,O,x,ds,ex,λvx H1 s1 r1=>⟨S,O,lo',ds.mono s1,el,λH2 s2=>⟨S,O,hi',ds.mono (s1.trans s2),eh,λH3 s3=>?_⟩⟩⟩;have r3:=r1.rd.mono (s2.trans s3)
  simp_all
  obtain⟨a,vs,rfl,h1,h2⟩:=r3.lst;have s13:=s1.trans (s2.trans s3);exact .inl ⟨a,vs,rfl,h1,λp n=>c _ _ (s13.trans (zAf n _)) (.lstNew s13 (ds.mono s13).sok n (h2.cut lo' hi'))⟩
 .rename_i es ex2;split at e
  .cases e
  .rename_i nw;cases e;refine⟨S,O,x,ds,ex,λvx H1 s1 r1=>⟨S,O,lo',ds.mono s1,el,λH2 s2=>⟨S,O,hi',ds.mono (s1.trans s2),eh,λH3 s3=>?_⟩⟩⟩;have r3:=r1.rd.mono (s2.trans s3);rw[ex2] at r3;obtain⟨a,vs,rfl,h1,h2⟩:=r3.tup;have s13:=s1.trans (s2.trans s3);exact .inr ⟨a,vs,rfl,h1,by rw[<- h2.length];exact nw,λp n=>c _ _ (s13.trans (zAf n _)) (.tupNew (ds.mono s13).sok n (h2.cut lo' hi'))⟩
 .cases e
def OpD1 (K:W.Frag)(r:List V->Hp->VK->Prop)(o:D->Option R):Prop :=
 ∀ (S:List Addr) (H:Hp) (x:D) (z:R) (vx:V) (Q:VK),(∀ a∈S,∃ xs:HO,H a=some xs/\MuB xs)->o x=some z->Rdv K H S x vx->(∀ v H',Same H H'->RV K H H' S z v->Q v H')->r [vx] H Q
noncomputable def one (f:Dst->Option R)(o:D->Option R):Dst->Option R:=λO=>(f O).bind λx=>o x.1
theorem zM6 {r:List V->Hp->VK->Prop}{o:D->Option R}{f:Dst->Option R}(h:OpD1 X.K r o){B:St}{H:Hp}{Q:VK}(q:gT X.K (one f o) B H Q):tCB r (zP0 (gT X.K f) tNil) B H Q:=by
 obtain⟨S,O,z,ds,e,c⟩:=q;obtain⟨x,ex,e⟩:=bind_some e;exact⟨S,O,x,ds,ex,λvx H1 s1 r1=>h S H1 x.1 z vx Q (ds.mono s1).sok e r1.rd λv H' s2 r2=>c v H' (s1.trans s2) (r2.from s1)⟩
theorem zRf {id:String}(hc:zEV X (.builtin id) r)(h:OpD1 X.K r o)(hg:Gl X x)(hm:X.mg x=none)(hv:bootBuiltins x=some (.builtin id))(ha:GE X e f)
  (he:starEach [e] X.env=[(false,eval e X.env)]) (hn:x ≠ "__name__") (hdb:(x==("__debug__":Str))=false):GE X (.Call (.Name x p) [e] [] pos) (one f o) :=
 (zDr hc hg hm hv (zAa ha zA2 he) hn hdb he rfl).imp λ_ _ _ q=>zM6 h q
theorem zRV (hc:zEV X (.type T) r)(h:OpD1 X.K r o)(hg:Gl X x)(hm:X.mg x=none)(hv:bootBuiltins x=some (.type T))(ha:GE X e f)
  (he:starEach [e] X.env=[(false,eval e X.env)]) (hn:x ≠ "__name__") (hdb:(x==("__debug__":Str))=false):GE X (.Call (.Name x p) [e] [] pos) (one f o) :=
 (zFy hc hg hm hv (zAa ha zA2 he) hn hdb he rfl).imp λ_ _ _ q=>zM6 h q
noncomputable def lenD:D->Option R
 | .lst ds=>some (.int ds.length,.cl)
 | .tup ds=>some (.int ds.length,.cl)
 | _=>none
theorem zN5:OpD1 X.K (λxs H Q=>∃ p ys,xs=[.ref p]/\(SqL X.K H p ys\/SqT X.K H p ys)/\Q (.int ys.length) H) lenD:=by
 intro S H x z vx Q _ e rx c;unfold lenD at e;split at e
 .cases e;obtain⟨a,vs,rfl,h1,h2⟩:=rx.lst;exact⟨a,vs,rfl,.inl h1,by rw[<- h2.length];exact c _ H (Same.refl _) (.int _)⟩
 .cases e;obtain⟨a,vs,rfl,h1,h2⟩:=rx.tup;exact⟨a,vs,rfl,.inr h1,by rw[<- h2.length];exact c _ H (Same.refl _) (.int _)⟩
 .cases e
noncomputable def absD:D->Option R
 | .int i=>some (.int (if i < 0 then -i else i),.cl)
 | _=>none
theorem zN8:OpD1 X.K (λxs H Q=>∃ i,xs=[.int i]/\Q (.int (if i < 0 then -i else i)) H) absD:=by
 intro S H x z vx Q _ e rx c;unfold absD at e;split at e
 .cases e;rename_i i;have:=rx.int;subst this;exact⟨i,rfl,c _ H (Same.refl _) (.int _)⟩
 .cases e
noncomputable def zIX:D->Option R
 | .lst ds=>some (.lst ds,.fr)
 | .tup ds=>some (.lst ds,.fr)
 | _=>none
theorem zLT:OpD1 X.K (λxs H Q=>∃ p ys,xs=[.ref p]/\(SqL X.K H p ys\/SqT X.K H p ys)/\∀ l,H l=none->Q (.ref l) (upd H l (.lst ys))) zIX:=by
 intro S H x z vx Q sok e rx c;unfold zIX at e;split at e
 .cases e;obtain⟨a,vs,rfl,h1,h2⟩:=rx.lst;exact⟨a,vs,rfl,.inl h1,λp n=>c _ _ (zAf n _) (.lstNew (Same.refl _) sok n h2)⟩
 .cases e;obtain⟨a,vs,rfl,h1,h2⟩:=rx.tup;exact⟨a,vs,rfl,.inr h1,λp n=>c _ _ (zAf n _) (.lstNew (Same.refl _) sok n h2)⟩
 .cases e
theorem zS1 {id:String}{k:Int->Int->Int}(hc:zEV X (.builtin id) (λxs H Q=>∃ i j,xs=[.int i,.int j]/\Q (.int (k i j)) H))
  (h:∀ x y z,o x y=some z->∃ i j,x=.int i/\y=.int j/\z=(.int (k i j),.cl)) (hg:Gl X x) (hm:X.mg x=none) (hv:bootBuiltins x=some (.builtin id)) (ha:GE X e1 f) (hb:GE X e2 g)
  (he:starEach [e1,e2] X.env=(false,eval e1 X.env)::starEach [e2] X.env) (he2:starEach [e2] X.env=[(false,eval e2 X.env)]) (hn:x ≠ "__name__") (hdb:(x==("__debug__":Str))=false):GE X (.Call (.Name x p) [e1,e2] [] pos) (two f g o):=by
 refine(zDr hc hg hm hv (zAa ha (zAa hb zA2 he2) he) hn hdb he (by rw[he2];rfl)).imp λB H Q zz58=>?_
 obtain⟨S,O,z,ds,e,c⟩:=zz58;obtain⟨x,ex,e⟩:=bind_some e;obtain⟨y,ey,e⟩:=bind_some e;obtain⟨i,j,hx,hy,rfl⟩:=h _ _ _ e;refine⟨S,O,x,ds,ex,λvx H1 s1 r1=>⟨S,O,y,ds.mono s1,ey,λvy H2 s2 r2=>⟨i,j,?_,c _ H2 (s1.trans s2) (.int _)⟩⟩⟩;have q1:=r1.rd;have q2:=r2.rd;rw[hx] at q1;rw[hy] at q2;rw[q1.int,q2.int]
noncomputable def maxD (x y:D):Option R:=match x,y with
 | .int i,.int j=>some (.int (if j>i then j else i),.cl)
 | _,_=>none
inductive Ty where
 | int | bool | str | tuple | list
 deriving DecidableEq
noncomputable def Ty.nm:Ty->String
 | .int => "int" | .bool => "bool" | .str => "str" | .tuple => "tuple" | .list => "list"
noncomputable def isiD (t:Ty):D->Bool
 | .non=>false
 | .bl _=>t=.bool||t=.int
 | .int _=>t=.int
 | .str _=>t=.str
 | .tup _=>t=.tuple
 | .lst _=>t=.list
 | .exc _=>false
 | .dct _=>false
 | .lam _ _ _=>false
 | .obj _ _ _=>false
 | .fn _ _=>false
noncomputable def excB:D->Bool
 | .exc _=>true
 | .dct _=>true
 | .lam _ _ _=>true
 | .obj _ _ _=>true
 | .fn _ _=>true
 | _=>false
noncomputable def tyD:D->String
 | .non => "NoneType" | .bl _ => "bool" | .int _ => "int" | .str _ => "str" | .tup _ => "tuple" | .lst _ => "list" | .exc _ => "" | .dct _ => "" | .lam _ _ _ => "" | .obj _ _ _ => "" | .fn _ _ => ""
theorem zQt (K:W.Frag)(d:D)(t:Ty)(hd:excB d=false):W.kitOne K (.type (tyD d)) (.type t.nm)=some (isiD t d):=by
 cases d<;>cases t<;>first | rfl | decide +kernel | cases hd
theorem zMg (t:Ty):zEV X (.builtin "isinstance") (λxs H Q=>∃ v d,xs=[v,.ty t.nm]/\Den X.K H d v/\excB d=false/\Q (.bl (isiD t d)) H):=by
 intro pins s B H xs us Q I r h;obtain⟨v,d,rfl,hd,hx,q⟩:=h;obtain⟨u,w',rfl,r1,r2⟩:=zK8 r;cases r2;have k:=zQt X.K d t hx;have fin:∀ tk,EP X pins B Q (.bool (isiD t d)) { s with toks:=tk }:=λtk=>⟨.bl (isiD t d),H,I.tok tk,rfl,q⟩
 cases d with
 | exc c=>cases hx
 | dct c=>cases hx
 | lam _ _ _=>cases hx
 | obj _ _ _=>cases hx
 | fn _ _=>cases hx
 | non=>rw[Den] at hd;subst hd;cases r1;exact W.kia_one W.kitx_none I.kIn True.intro k (λz=>nomatch z) fin
 | bl b=>rw[Den] at hd;subst hd;cases r1;exact W.kia_one W.kitx_bool I.kIn True.intro k (λz=>nomatch z) fin
 | int i=>rw[Den] at hd;subst hd;obtain⟨tt,rfl⟩:=r1;exact W.kia_one W.kitx_int I.kIn True.intro k (λz=>nomatch z) fin
 | str i=>rw[Den] at hd;subst hd;obtain⟨tt,rfl⟩:=r1;exact W.kia_one W.kitx_str I.kIn True.intro k (λz=>nomatch z) fin
 | tup ds =>
  obtain⟨a,vs,rfl,h1,h2⟩:=hd;cases r1;obtain⟨its,rv,⟨o,e1,e2,n,e3⟩,_⟩:=I.tuple h1;exact W.kia_one W.kitx_tuple I.kIn ⟨o,e1,e2⟩ k (λz=>nomatch z) fin
 | lst ds =>
  obtain⟨a,vs,rfl,h1,h2⟩:=hd;cases r1;obtain⟨its,rv,⟨o,n,e1,e2,_,e3⟩,_⟩:=I.list h1;exact W.kia_one W.kitx_list I.kIn ⟨o,e1,e2⟩ k (λz=>nomatch z) fin
noncomputable def isiF (t:Ty)(x:D):Option R:=if excB x=true then none else some (.bl (isiD t x),.cl)
theorem zPd (t:Ty):bootBuiltins (Str.ofString t.nm)=some (.type t.nm):=by cases t<;>decide +kernel
theorem zQh (t:Ty):(Str.ofString t.nm)≠("__name__":Str)/\((Str.ofString t.nm)==("__debug__":Str))=false:=by cases t<;>decide +kernel
theorem zRb (hg:Gl X "isinstance")(hm:X.mg "isinstance"=none)(hg2:Gl X (Str.ofString t.nm))(hm2:X.mg (Str.ofString t.nm)=none)(ha:GE X e f)
  (he:starEach [e,.Name (Str.ofString t.nm) p2] X.env=(false,eval e X.env)::starEach [.Name (Str.ofString t.nm) p2] X.env):GE X (.Call (.Name "isinstance" p) [e,.Name (Str.ofString t.nm) p2] [] pos) (one f (isiF t)):=by
 refine(zDr (zMg t) hg hm boot_isinstance (zAa ha (zAa (zN2 hg2 hm2 (zPd t) (v:=.ty t.nm) rfl (zQh t).1 (zQh t).2) zA2 rfl) he) (by decide) (by decide) he rfl).imp λB H Q zz59=>?_
 obtain⟨S,O,z,ds,e,c⟩:=zz59;obtain⟨x,ex,e⟩:=bind_some e;unfold isiF at e;by_cases hx:excB x.1=true
 .simp_all
 .rw [if_neg hx] at e;cases e;exact⟨S,O,x,ds,ex,λvx H1 s1 r1=>⟨vx,x.1,rfl,r1.rd.whole,by simpa using hx,c _ H1 s1 (.bl _)⟩⟩
def spD (K:W.Frag)(F:List D->Option R):Sp:=λvs H Q _=>∃ S ds r,(∀ a∈S,∃ xs:HO,H a=some xs/\MuB xs)/\DenL K (hide H S) ds vs/\F ds=some r/\r.2≠.dt/\∀ v H',Same H H'->RV K H H' S r v->Q v H'
def spD0 (K:W.Frag)(F:List D->Option R):Sp:=λvs H Q _=>∃ ds r,DenL K H ds vs/\F ds=some r/\r.2≠.dt/\∀ v H',Same H H'->RV K H H' [] r v->Q v H'
noncomputable def zIi (F:List D->Option R)(g:Dst->Option (List D)):Dst->Option R:=λO=>(g O).bind λds=>(F ds).bind λr=>if r.2=.dt then none else some r
theorem zH4 {F:List D->Option R}{g:Dst->Option (List D)}{B:St}{H:Hp}{Q:VK}(q:gT X.K (zIi F g) B H Q):zK9 (spD X.K F) [] E0 (gA X.K g) B H Q:=by
 obtain⟨S,O,z,ds,e,c⟩:=q;obtain⟨xs,ex,e⟩:=bind_some e;obtain⟨r,er,e⟩:=bind_some e;by_cases hr:r.2=.dt
 .rw [if_pos hr] at e;cases e
 rw[if_neg hr] at e;cases e;refine⟨S,O,xs,ds,ex,λvs H1 s1 r1=>?_⟩;show spD X.K F (vs++[]) H1 Q E0;rw[append_nil];exact⟨S,xs,_,(ds.mono s1).sok,r1,er,hr,λv H' s2 r2=>c v H' (s1.trans s2) (r2.from s1)⟩
theorem zO1 {k:Nat}{f:Addr}{fd:FuncData}{ps:List Str}{F:List D->Option R}{x:Str}{p pos:Pos}{e:Expr}{es:List Expr}{g:Dst->Option (List D)}(FO:FnOk X.prog X.w X.K X.mg X.base CX0 k f fd ps (spD X.K F))(hr:Room k X.A)(hg:Gl X x)(hm:X.mg x=some (.ref f))
  (hk:W.keepIn X.K (.ref f)=true) (hb:zBb X.K fd ps []) (ha:GA X (e::es) g) (hdb:(x==("__debug__":Str))=false) (he:starEach (e::es) X.env=(false,eval e X.env)::starEach es X.env) (hpl:∀ pos,(backTo pos (starEach es X.env)).any (·.1)=false) :
  GE X (.Call (.Name x p) (e::es) [] pos) (zIi F g) :=
 (zJE FO hr hg hm hk hb .nil zIJ ha hdb he (hpl pos)).imp λ_ _ _ q=>zH4 q
theorem zMA (FO:FnOk X.prog X.w X.K X.mg X.base CX0 k f fd ps (spD X.K F))(hr:Room k X.A)(hg:Gl X x)(hm:X.mg x=some (.ref f))
  (hk:W.keepIn X.K (.ref f)=true) (hb:zBb X.K fd ps []) (hdb:(x==("__debug__":Str))=false):GE X (.Call (.Name x p) [] [] pos) (zIi F λ_=>some []):=by
 refine(zLR FO hr hg hm hk hb .nil zIJ hdb).imp λB H Q q=>?_
 obtain⟨S,O,z,ds,e,c⟩:=zH4 q;cases e;exact c [] H (Same.refl _) .nil
def gAL (K:W.Frag)(f:Dst->Option (List D)):TA:=λB H Q=>∃ S O ds,DS K H S B O/\f O=some ds/\∀ vs H',Same H H'->DenL K H' ds vs->Q vs H'
def GAL (X:Cx)(es:List Expr)(f:Dst->Option (List D)):Prop:=PA X es (gAL X.K f)
theorem zO5:GAL X [] (λ_=>some []):=zA2.imp λB H Q zz60=>by
 obtain⟨S,O,z,ds,e,c⟩:=zz60;cases e;exact c [] H (Same.refl _) .nil
noncomputable def zR8 (f:Dst->Option R)(g:Dst->Option (List D)):Dst->Option (List D):=λO=>(f O).bind λx=>(g O).bind λxs=>some (x.1::xs)
theorem zMC (ha:GE X e f)(hr:GAL X es g)(hs:starEach (e::es) X.env=(false,eval e X.env)::starEach es X.env):GAL X (e::es) (zR8 f g):=by
 refine(zAa ha hr hs).imp λB H Q zz61=>?_
 obtain⟨S,O,z,ds,e,c⟩:=zz61;obtain⟨x,ex,e⟩:=bind_some e;obtain⟨xs,exs,e⟩:=bind_some e;cases e;refine⟨S,O,x,ds,ex,λv H1 s1 r1=>⟨S,O,xs,ds.mono s1,exs,λvs H2 s2 r2=>?_⟩⟩;exact c _ H2 (s1.trans s2) (.cons (r1.rd.whole.mono s2) r2)
theorem zEG {K:W.Frag}(e0:Env0 P w K mg base A outer s H)(hS:∀ a∈S,∃ xs:HO,H a=some xs/\MuB xs)(hk:r.2≠.dt)
  (run:Env0 P w K mg base A outer s (hide H S)->codeAny (model P w) A cd (CR CX0 outer P w (hide H S) s (λv H2=>RV K (hide H S) H2 [] r v/\Same (hide H S) H2) E) s) (c:∀ v H',Same H H'->RV K H H' S r v->Q v H'):codeAny (model P w) A cd (CR CX0 outer P w H s Q E) s:=by
 have inS:∀ {b:Addr} {o:HO},b∈S->H b=some o->MuB o:=λ{b o} z e=>by
  obtain⟨xs,q,mu⟩:=hS b z;rw[q] at e;cases e;exact mu
 have hok:HOk P w (hide H S) s.heap:=λb o e=>by
  obtain⟨nb,e'⟩:=zA9 e;refine(e0.hok b o e').stay (λc u _ q=>q) (λc q=>?_) (λc xs q=>?_) λc ob u q _=>?_
  .rw [zAT λz=>?_]
   .exact q
   .exact (inS z q).elim
  .rw [zAT λz=>?_]
   .exact q
   .exact (inS z q).elim
  .rw [zAT λz=>?_]
   .exact q
   .exact (inS z q).elim
 have none_of:∀ {b:Addr},H b=none->hide H S b=none:=λ{b} q=>by
  by_cases z:b∈S
  .exact zCT z
  .rw [zAT z];exact q
 have e1:Env0 P w K mg base A outer s (hide H S):=⟨e0.frames,e0.mod,λb o e=>⟨(e0.bs b o e).1,none_of (e0.bs b o e).2⟩,e0.bsz,e0.funs,λb z=>none_of (e0.frf b z),hok,e0.bare,e0.tree,λx hx c P e=>by
  have q:=e0.tabs x hx c P e;rw[zAT λz=>(inS z q).elim];exact q⟩
 refine codeAny_mono (run e1) λres s' h=>?_
 cases res with
 | error e=>exact h.elim
 | ok fl =>
  cases fl with
  | next=>exact h
  | brk=>exact h
  | cont=>exact h
  | ret u =>
   obtain⟨v,H2,os,bare,un,hok2,rv2,r2,s2⟩:=h;have there:∀ {b:Addr},b∈S->∃ ob xs,s.heap.get? b=some ob/\s'.heap.get? b=some ob/\H2 b=none/\H b=some xs/\MuB xs/\zBz P w H s.heap b xs:=λ{b} z=>by
    obtain⟨xs,q,mu⟩:=hS b z;have ok:=e0.hok b _ q;obtain⟨ob,e⟩:∃ ob,s.heap.get? b=some ob:=by
     cases xs with
     | lst ys=>obtain⟨z1,its,n,r1,e⟩:=id ok;exact⟨_,e⟩
     | dT kvs=>obtain⟨_,_,_,_,ob,_,_,e,_⟩:=id ok;exact⟨ob,e⟩
     | _=>exact mu.elim
    have nf:b∉frs outer:=λz2=>by rw[e0.frf b z2] at q;cases q
    exact⟨ob,xs,e,un.keep b _ e (zCT z) nf (by simp),un.free b _ e (zCT z) (by simp),q,mu,ok⟩
   have out:∀ {b:Addr} {o:HO},H2 b=some o->b∉S:=λ{b o} e z=>by
    obtain⟨_,_,_,_,q,_⟩:=there z;rw[q] at e;cases e
   obtain⟨H',h'in,h'out⟩:∃ H':Hp,(∀ {b:Addr},b∈S->H' b=H b)/\(∀ {b:Addr},b∉S->H' b=H2 b):=⟨λb=>if b∈S then H b else H2 b,λz=>if_pos z,λz=>if_neg z⟩;have sH:Same H H':=λb o e=>by
    by_cases z:b∈S
    .rw [h'in z];exact e
    .rw [h'out z];exact s2 b o (by rw[zAT z];exact e)
   have sub:Same H2 (hide H' S):=λb o e=>by
    rw[zAT (out e),h'out (out e)];exact e
   refine⟨v,H',os,bare,⟨λb o e n=>un.keep b o e (none_of n),λb o e n=>un.slot b o e (none_of n),λb o e n hx=>?_,un.there,λb xs e=>?_,λb o u e=>?_,λb ps e=>?_⟩,λb o e=>?_,rv2,c v H' sH ?_⟩
   .by_cases z:b∈S
    .rw [h'in z];exact n
    .rw [h'out z];exact un.free b o e (none_of n) hx
   .exact sH b _ e
   .exact sH b _ e
   .exact sH b _ e
   .by_cases z:b∈S
    .rw [h'in z] at e;obtain⟨ob,xs,g1,g2,_,g4,mu,ok⟩:=there z;rw[g4] at e;cases e;cases o with
     | lst ys =>
      obtain⟨z1,its,n,r1,e⟩:=ok;rw[g1] at e;cases e;exact⟨z1,its,n,r1,g2⟩
     | dT kvs =>
      obtain⟨z1,z2,xs,r1,ob',es,ep,e,rest⟩:=ok;rw[g1] at e;cases e;exact⟨z1,z2,xs,Paired.mapP r1 λp q z=>⟨z.1,sH _ _ z.2.1,z.2.2⟩,ob,es,ep,g2,rest⟩
     | _=>exact mu.elim
    .rw [h'out z] at e;exact(hok2 b o e).stay (λc u _ q=>q) (λc q=>by rw[h'out (out q)];exact q) (λc xs q=>by rw[h'out (out q)];exact q) λc ob u q _=>by rw[h'out (out q)];exact q
   .obtain ⟨d,kd⟩:=r;cases kd with
    | cl =>
     have q:Den K (hide H2 []) d v:=r2;rw[zC1] at q;exact q.mono sub
    | fr =>
     obtain⟨a,ws,es,ev,ed,_,na,ha,t⟩:=r2;have aS:a∉S:=out ha;refine⟨a,ws,es,ev,ed,aS,by rw[zAT aS] at na;exact na,by rw[h'out aS];exact ha,t.mono λb o e=>?_⟩;obtain⟨q1,q2⟩:=zA9 e;have nb:b∉a::S:=λz=>(mem_cons.mp z).elim (λz=>q1 (by rw[z];exact q8)) (out q2)
     rw[zAT nb,h'out (out q2)];exact q2
    | dt=>exact absurd rfl hk
theorem FnOk.framed {K:W.Frag}(G:FnOk P w K mg base CX0 k f fd ps (spD0 K F)):FnOk P w K mg base CX0 k f fd ps (spD K F):=by
 refine⟨λvs H Q E h=>?_,λA outer s H args us vs Q E hr e0 hb rv h=>?_⟩
 .obtain ⟨S,ds,r,hS,hd,hF,hk,c⟩:=h;exact G.len vs _ _ E ⟨ds,r,hd,hF,hk,λ_ _ _ _=>trivial⟩
 obtain⟨S,ds,r,hS,hd,hF,hk,c⟩:=h;exact zEG e0 hS hk (λe1=>G.run A outer s _ args us vs _ E hr e1 hb rv ⟨ds,r,hd,hF,hk,λv H' s1 r1=>⟨r1,s1⟩⟩) c
end
inductive Out where
 | nx (O:Dst) | rt (r:R) | bk (O:Dst) | ct (O:Dst)
def Post (K:W.Frag)(H0:Hp)(o:Out)(E:Ends):Prop:=match o with
 | .nx O2=>∀ S' O1 H',DS K H' S' O1 O2->Same H0 (hide H' S')->E.nx O1 H'
 | .bk O2=>∀ S' O1 H',DS K H' S' O1 O2->Same H0 (hide H' S')->E.bk O1 H'
 | .ct O2=>∀ S' O1 H',DS K H' S' O1 O2->Same H0 (hide H' S')->E.ct O1 H'
 | .rt r=>r.2≠.dt/\∀ v H',Same H0 H'->RV K H0 H' [] r v->E.rt v H'
def gS (K:W.Frag)(H0:Hp)(g:Dst->Option Out):TS:=λE B H=>∃ S O o,DS K H S B O/\Same H0 (hide H S)/\g O=some o/\Post K H0 o E
def GS (X:Cx)(st:Stmt)(g:Dst->Option Out):Prop:=∀ H0,PS X st (gS X.K H0 g)
def GSs (X:Cx)(st:List Stmt)(g:Dst->Option Out):Prop:=∀ H0,PSs X st (gS X.K H0 g)
theorem _root_.L2.PS.imp {st:Stmt}(h:PS X st t)(i:∀ E B H,t' E B H->t E B H):PS X st t':=λpins s B H E I q=>h pins s B H E I (i E B H q)
theorem _root_.L2.PSs.imp {st:List Stmt}(h:PSs X st t)(i:∀ E B H,t' E B H->t E B H):PSs X st t':=λpins s B H E I q=>h pins s B H E I (i E B H q)
section
variable {X:Cx}
noncomputable def seqD (f g:Dst->Option Out):Dst->Option Out:=λO=>(f O).bind λo=>match o with
 | .nx O2=>g O2
 | o=>some o
theorem zOh:GSs X [] (λO=>some (.nx O)):=λH0=>zGj.imp λE B H zz62=>by
 obtain⟨S,O,o,ds,h0,e,p⟩:=zz62;cases e;exact p S B H ds h0
theorem zLv {st:Stmt}(h1:GS X st f)(h2:GSs X rest g):GSs X (st::rest) (seqD f g):=λH0=>(zFJ (h1 H0) (h2 H0)).imp λE B H zz63=>by
 obtain⟨S,O,o,ds,h0,e,p⟩:=zz63;obtain⟨o1,e1,e⟩:=bind_some e;refine⟨S,O,o1,ds,h0,e1,?_⟩;cases o1 with
 | nx O2=>exact λS' O1 H' d' s'=>⟨S',O2,o,d',s',e,p⟩
 | rt r=>cases e;exact p
 | bk O2=>cases e;exact p
 | ct O2=>cases e;exact p
theorem zOg (hf:∀ O o,f O=some o->∃ O2,o=.nx O2/\∀ K H S B,DS K H S B O->∃ S',(∀ b∈S',b∈S)/\DS K H S' B O2)(h2:GSs X rest g):GSs X rest (seqD f g):=λH0=>(h2 H0).imp λE B H zz64=>by
 obtain⟨S,O,o,ds,h0,e,p⟩:=zz64;obtain⟨o1,e1,e⟩:=bind_some e;obtain⟨O2,rfl,k⟩:=hf O o1 e1;obtain⟨S',sub,d'⟩:=k _ H S B ds;exact⟨S',O2,o,d',h0.trans (zCG sub),e,p⟩
theorem zR2 {K:W.Frag}(ds:DS K H S B O)(h0:Same H0 (hide H S))(s1:Same H H')(p:Post K H0 (.nx O) E):E.nx B H' :=
 p S B H' (ds.mono s1) (h0.trans (zAU s1))
noncomputable def retD (f:Dst->Option R):Dst->Option Out:=λO=>(f O).bind λr=>if r.2=.dt then none else some (.rt r)
theorem RV.up {K:W.Frag}(h0:Same H0 (hide H S))(s1:Same H H')(hr:r.2≠.dt)(h:RV K H H' S r v):Same H0 H'/\RV K H0 H' [] r v:=by
 refine⟨h0.trans (zAt.trans s1),?_⟩;obtain⟨d,k⟩:=r;cases k with
 | cl =>
  exact Den.mono zAt h
 | fr =>
  obtain⟨a,vs,ds,e1,e2,e3,e4,e5,t⟩:=h;refine⟨a,vs,ds,e1,e2,by simp,?_,e5,t.mono (zCG λb z=>by
   have:b=a:=by simpa using z
   rw[this];exact q8)⟩
  cases q:H0 a with
  | none=>rfl
  | some o =>
   have:=(zA9 (h0 a o q)).2;grind
 | dt=>exact absurd rfl hr
theorem zRD (h:GE X e f):GS X (.Return (some e) pos) (retD f):=λH0=>(zI8 h).imp λE B H zz65=>by
 obtain⟨S,O,o,ds,h0,e,p⟩:=zz65;obtain⟨r,er,e⟩:=bind_some e;by_cases hr:r.2=.dt
 .simp_all
 simp_all
 cases e;refine⟨S,O,r,ds,er,λv H' s1 r1=>?_⟩;obtain⟨q1,q2⟩:=RV.up h0 s1 hr r1;exact p.2 v H' q1 q2
noncomputable def zFH (i:Nat):Dst->Option Out:=λO=>match O[i]? with
 | some (some (.lst d,true))=>some (.rt (.lst d,.fr))
 | _=>none
theorem zJ0 (hN:X.N[i]?=some x)(hv:Vis X.env.scope x)(hd:(x==("__debug__":Str))=false)(hcd:(x==("__classdict__":Str))=false):GS X (.Return (some (.Name x pos')) pos) (zFH i):=λH0=>(zI8 (zDb hN hv hd hcd)).imp λE B H zz66=>by
 obtain⟨S,O,o,ds,h0,e,p⟩:=zz66;unfold zFH at e;split at e
 .rename_i d q;cases e;obtain⟨v,q1,q2⟩:=ds.get i _ true q;obtain⟨a,vs,es,rfl,e2,w1,w2,w3⟩:=q2.ownL rfl;refine⟨.ref a,q1,p.2 _ H (h0.trans zAt) ⟨a,vs,es,rfl,e2,by simp,?_,w2,w3.mono (zCG λb z=>by
   have:b=a:=by simpa using z
   rw[this];exact w1)⟩⟩
  cases q:H0 a with
  | none=>rfl
  | some o=>exact absurd w1 (zA9 (h0 a o q)).1
 .cases e
theorem zOo :GS X (.Pass pos) (λO=>some (.nx O)):=λH0=>zNt.imp λE B H zz67=>by
 obtain⟨S,O,o,ds,h0,e,p⟩:=zz67;cases e;exact p S B H ds h0
theorem zL3 {st:Stmt}:GS X st (λ_=>none):=λH0=>zFK.imp λE B H zy156=>by obtain⟨S,O,o,ds,h0,e,p⟩:=zy156;cases e
noncomputable def setD (i:Nat)(f:Dst->Option R):Dst->Option Out:=λO=>(f O).bind λr=>match r.2 with
 | .cl=>some (.nx (O.set i (some (r.1,false))))
 | .fr=>some (.nx (O.set i (some (r.1,true))))
 | .dt=>none
theorem zEf {K:W.Frag}(ds:DS K H S B O)(h0:Same H0 (hide H S))(s1:Same H H')(r1:RV K H H' S r v)
  (e:(match r.2 with | .cl=>some (Out.nx (O.set i (some (r.1,false)))) | .fr=>some (Out.nx (O.set i (some (r.1,true)))) | .dt=>none)=some o) (p:Post K H0 o E):E.nx (B.set i (some v)) H':=by
 obtain⟨d,k⟩:=r;cases k with
 | cl =>
  cases e;exact p S _ H' ((ds.mono s1).set r1) (h0.trans (zAU s1))
 | fr =>
  cases e;obtain⟨a,vs,es,rfl,rfl,e3,e4,e5,t⟩:=r1;exact p (a::S) _ H' (ds.setF s1 e4 e5 t) (h0.trans (zDt s1 e4))
 | dt=>cases e
theorem zNM (hN:X.N.Nodup)(hi:X.N[i]?=some x)(hx:Loc X.env.scope x)(h:GE X e f)(hs:swapsWith e (some (.Name x pos')) pos.line X.env=pure false)(hf:X.fn x=true\/X.env.scope.names.lookup x=some .local) :
  GS X (.Assign [.Name x pos'] e pos) (setD i f):=λH0=>(zMy hN hi hx h hs hf).imp λE B H zz68=>by
 obtain⟨S,O,o,ds,h0,e,p⟩:=zz68;obtain⟨r,er,e⟩:=bind_some e;exact⟨S,O,r,ds,er,λv H' s1 r1=>zEf ds h0 s1 r1 e p⟩
noncomputable def appD (i:Nat)(f:Dst->Option R):Dst->Option Out:=λO=>match O[i]? with
 | some (some (.lst xs,true))=>(f O).bind λr=>if r.2=.dt then none else if xs.length<=10000 then some (.nx (O.set i (some (.lst (xs++[r.1]),true)))) else none
 | _=>none
theorem zRH (hi:X.N[i]?=some x)(hv:Vis X.env.scope x)(hd:(x==("__debug__":Str))=false)(hcd:(x==("__classdict__":Str))=false)(h:GE X e f)
  (he:starEach [e] X.env=[(false,eval e X.env)]) (hbase:attributeBase (.Name x npos) "append" X.env (eval (.Name x npos) X.env)=eval (.Name x npos) X.env) (hline:(apos.endLine==cpos.line)=true) :
  GS X (.Expr (.Call (.Attribute (.Name x npos) "append" apos) [e] [] cpos) pos) (appD i f):=λH0=>(zDA (zGk PySem.F.plainAttrs_list PySem.F.slot_list_append PySem.F.type_list_append zF4 (zDb hi hv hd hcd) (zAa h zA2 he) hbase (by rw[he];rfl) hline he rfl) rfl).imp λE B H zz69=>by
 obtain⟨S,O,o,ds,h0,e,p⟩:=zz69;unfold appD at e;split at e
 .rename_i xs q;obtain⟨r,er,e⟩:=bind_some e;by_cases hr:r.2=.dt
  .rw [if_pos hr] at e;cases e
  rw[if_neg hr] at e;by_cases hl:xs.length<=10000
  .rw [if_pos hl] at e;cases e;obtain⟨v,q1,q2⟩:=ds.get i _ true q;obtain⟨a,vs,es,rfl,e2,w1,w2,w3⟩:=q2.ownL rfl;cases e2;refine⟨.ref a,q1,.inl ⟨rfl,_,SqL.of w2⟩,S,O,r,ds,er,λy H1 s1 r1=>?_⟩;have hy:Den X.K (hide H1 S) r.1 y:=RV.den (d:=r.1) (k:=r.2) r1 hr;have w3':=w3.mono (zAU s1 (S:=S));refine⟨a,vs,y,rfl,rfl,s1 _ _ w2,by rw[<- w3.length];exact Nat.lt_of_le_of_lt hl (by decide),?_⟩;have d2:=(ds.mono s1).change (i:=i) q q1 (w3'.append (.cons hy .nil));refine p S B _ d2 ?_;rw[zFW w1];exact h0.trans (zAU s1)
  .rw [if_neg hl] at e;cases e
 .cases e
noncomputable def ifD (c:Dst->Option Bool)(f g:Dst->Option Out):Dst->Option Out:=λO=>(c O).bind λb=>if b=true then f O else g O
theorem zSr (hc:GT X c k)(ha:GSs X a f)(hb:GSs X b g):GS X (.If c a b pos) (ifD k f g):=λH0=>(zQG hc (ha H0) (hb H0)).imp λE B H zz70=>by
 obtain⟨S,O,o,ds,h0,e,p⟩:=zz70;obtain⟨b,eb,e⟩:=bind_some e;refine⟨S,O,b,ds,eb,λH1 s1=>?_⟩;cases b with
 | true =>
  exact⟨S,O,o,ds.mono s1,h0.trans (zAU s1),e,p⟩
 | false =>
  exact⟨S,O,o,ds.mono s1,h0.trans (zAU s1),e,p⟩
noncomputable def zBd (c:Dst->Option Bool)(b:Dst->Option Out):Nat->Dst->Option Out
 | 0,_=>none
 | n+1,O=>(c O).bind λk=>if k=true then (b O).bind λo=>(match o with
   | .nx O2=>zBd c b n O2
   | .ct O2=>zBd c b n O2
   | .bk O2=>some (.nx O2)
   | .rt r=>some (.rt r)) else some (.nx O)
theorem zC8 :∀ {n:Nat} {O:Dst} {o:Out},zBd c b n O=some o->zBd c b (n+1) O=some o
 | 0,_,_,h=>by cases h
 | n+1,O,o,h=>by
  obtain⟨k,ek,h⟩:=bind_some h;show (c O).bind _=some o;rw[ek];cases k with
  | false =>
   rw[if_neg qX] at h;rw[qx,if_neg qX];exact h
  | true =>
   rw[if_pos rfl] at h;rw[qx,if_pos rfl];obtain⟨o1,e1,h⟩:=bind_some h;rw[e1];cases o1 with
   | nx O2=>exact zC8 (n:=n) h
   | ct O2=>exact zC8 (n:=n) h
   | bk O2=>exact h
   | rt r=>exact h
theorem zDu (h:zBd c b n O=some o)(l:n<=m):zBd c b m O=some o:=by
 induction m with
 | zero =>
      have:n=0:=by omega
      grind
 | succ m ih =>
  by_cases q:n<=m
  .exact zC8 (ih q)
  .grind
open Classical in
def zEe (c:Dst->Option Bool)(b:Dst->Option Out)(O:Dst):Option Out :=
 if h:∃ n o,zBd c b n O=some o then some (Classical.choose (choose_spec h)) else none
theorem zIm (h:zBd c b n O=some o):zEe c b O=some o:=by
 have ex:∃ n o,zBd c b n O=some o:=⟨n,o,h⟩;unfold zEe;rw[dif_pos ex];have q2:=zDu h (Nat.le_max_right (Classical.choose ex) n);rw[zDu (choose_spec (choose_spec ex)) (Nat.le_max_left _ n)] at q2;omega
theorem zIC (h:zEe c b O=some o):∃ n,zBd c b n O=some o:=by
 unfold zEe at h;by_cases ex:∃ n o,zBd c b n O=some o
 .grind
 .grind
theorem zL2 (hp:PassesOwn (model X.prog X.w) X.A X.env X.xe)(hc:GT X c k)(hb:GSs X body f):GS X (.While c body [] pos) (zEe k f):=λH0=>(zLJ hp hc (hb H0)).imp λE B H zz71=>by
 obtain⟨S,O,o,ds,h0,e,p⟩:=zz71;obtain⟨n,en⟩:=zIC e;refine⟨λm B H=>∃ S O,DS X.K H S B O/\Same H0 (hide H S)/\zBd k f m O=some o,⟨n,S,O,ds,h0,en⟩,?_⟩;rintro m B H ⟨S,O,ds,h0,en⟩;cases m with
 | zero=>cases en
 | succ m =>
  obtain⟨b,eb,en⟩:=bind_some en;refine⟨S,O,b,ds,eb,λH1 s1=>?_⟩;cases b with
  | false =>
   cases en;exact zR2 ds h0 s1 p
  | true =>
   obtain⟨o1,e1,en⟩:=bind_some en;refine⟨λO1 H'=>∃ S O,DS X.K H' S O1 O/\Same H0 _/\zBd k f m O=some o,λO1 H' q=>⟨m,Nat.lt_succ_self m,q⟩,S,O,o1,ds.mono s1,h0.trans (zAU s1),e1,?_⟩;cases o1 with
   | nx O2=>exact λS' O1 H' d' q'=>⟨S',O2,d',q',en⟩
   | ct O2=>exact λS' O1 H' d' q'=>⟨S',O2,d',q',en⟩
   | bk O2=>cases en;exact p
   | rt r=>cases en;exact p
noncomputable def forD (t:D->Dst->Option Dst)(b:Dst->Option Out):List D->Dst->Option Out
 | [],O=>some (.nx O)
 | x::xs,O=>(t x O).bind λO7=>(b O7).bind λo=>match o with
  | .nx O2=>forD t b xs O2
  | .ct O2=>forD t b xs O2
  | .bk O2=>some (.nx O2)
  | .rt r=>some (.rt r)
def GG (X:Cx)(tg:Expr)(t:D->Dst->Option Dst):Prop:=∃ g,PG X tg g/\∀ (K:W.Frag),K=X.K->∀ (x:D) (v:V) (B:St) (H:Hp) (S:List Addr) (O O2:Dst) (Q:St->Hp->Prop),DS K H S B O->Den K (hide H S) x v->t x O=some O2->(∀ O1,DS K H S O1 O2->Q O1 H)->g v B H Q
theorem zJ5 (hN:X.N.Nodup)(hi:X.N[i]?=some x)(hx:Loc X.env.scope x)(hf:X.fn x=true\/X.env.scope.names.lookup x=some .local):GG X (.Name x pos) (λd O=>some (O.set i (some (d,false)))) :=
 ⟨_,zFN hN hi hx hf,λK hK x v B H S O O2 Q ds hv e q=>by
  cases e;exact q _ (ds.set hv)⟩
noncomputable def tg2 (i j:Nat):D->Dst->Option Dst:=λd O=>match d with
 | .tup [a,b]=>some ((O.set i (some (a,false))).set j (some (b,false)))
 | _=>none
def GI (X:Cx)(tg iter:Expr)(f:Dst->Option (List D)):Prop:=∃ wi,PI X tg iter wi/\∀ (B:St) (H:Hp) (S:List Addr) (O:Dst) (xs:List D) (Rr:It->Hp->Prop),DS X.K H S B O->f O=some xs ->
 (∀ J H1,Same H H1->(∀ (i:Nat) H2,i<=xs.length->Same (hide H1 S) H2->(i=xs.length->J.stop i H2)/\(i < xs.length->J.go i H2/\∀ v H3,J.yld i H2 v H3->H3=H2/\∀ x,xs[i]?=some x->Den X.K (hide H1 S) x v))->Rr J H1)->wi B H Rr
theorem zRE (hp:PassesOwn (model X.prog X.w) X.A X.env X.xe)(hc:X.calm=true)(hi:GI X tg iter f)(hg:GG X tg t)(hb:GSs X body b)
  (hs:∀ x,foldedSetIterable iter X.env x=pure x):GS X (.For tg iter body [] pos) (λO=>(f O).bind λxs=>forD t b xs O):=by
 intro H0;obtain⟨wi,hwi,hI⟩:=hi;obtain⟨g,hg,hG⟩:=hg;intro pins s B H E I ⟨S,O,o,ds,h0,e,p⟩;obtain⟨xs,ex,e⟩:=bind_some e;refine(zMz (tb:=λE B H2=>∃ H1,gS X.K (hide H1 S) b E B H2/\Same (hide H1 S) (hide H1 S)) hp hc hwi hg ?_ hs) pins s B H E I ?_
 .intro pins s B H E I ⟨H1,q,_⟩;exact hb (hide H1 S) pins s B H E I q
 refine hI B H S O xs _ ds ex λJ H1 s1 hJ=>?_
 refine⟨λi m O1 H2=>i<=xs.length/\m=xs.length - i/\∃ S' O2,DS X.K H2 S' O1 O2/\Same (hide H1 S) (hide H2 S')/\forD t b (xs.drop i) O2=some o,⟨xs.length,zero_le _,by omega,S,O,ds.mono s1,Same.refl _,e⟩,?_⟩;rintro i m O1 H2 ⟨hi,rfl,S',O2,ds',k',e'⟩;have kH:Same H0 (hide H1 S):=h0.trans (zAU s1);obtain⟨j1,j2⟩:=hJ i H2 hi (k'.trans zAt);by_cases hlt:i < xs.length
 .obtain ⟨go,yl⟩:=j2 hlt;have hd:xs.drop i=xs[i]::xs.drop (i+1):=List.drop_eq_getElem_cons hlt;rw[hd] at e';obtain⟨O7,e1,e'⟩:=bind_some e';obtain⟨o1,e2,e'⟩:=bind_some e';refine .inr ⟨go,λB3 H3=>∃ S' O2,DS X.K H3 S' B3 O2/\Same (hide H1 S) (hide H3 S')/\forD t b (xs.drop (i+1)) O2=some o,λB3 H3 q=>⟨xs.length - (i+1),by omega,hlt,rfl,q⟩,λv H3 y=>?_⟩;obtain⟨rfl,hv⟩:=yl v H3 y;refine hG X.K rfl xs[i] v O1 H3 S' O2 O7 _ ds' ((hv _ (by simp[hlt])).mono k') e1 λB4 ds4=>⟨H1,⟨S',O7,o1,ds4,k',e2,?_⟩,Same.refl _⟩
  cases o1 with
  | nx Z5=>exact λS2 B2 H4 d2 q2=>⟨S2,Z5,d2,q2,e'⟩
  | ct Z5=>exact λS2 B2 H4 d2 q2=>⟨S2,Z5,d2,q2,e'⟩
  | bk Z5 =>
   cases e';exact λS2 B2 H4 d2 q2=>p S2 B2 H4 d2 (kH.trans q2)
  | rt r =>
   cases e';refine⟨p.1,λv H4 q1 q2=>p.2 v H4 (kH.trans q1) (q2.from kH)⟩
 .have ei:i=xs.length:=by omega
  subst ei;rw[List.drop_eq_nil_of_le (le_refl _)] at e';cases e';exact .inl ⟨j1 rfl,p S' O1 H2 ds' (kH.trans k')⟩
noncomputable def rngL (lo:Int)(n:Nat):List D:=(List.range n).map λ(k:Nat)=>D.int (lo+k)
theorem zFv {K:W.Frag}{lo:Int}(i:Nat)(H2:Hp)(hi:i<=(rngL lo n).length):(i=(rngL lo n).length->(Itr lo n).stop i H2)/\(i < (rngL lo n).length->(Itr lo n).go i H2/\∀ v H3,(Itr lo n).yld i H2 v H3->H3=H2/\∀ x,(rngL lo n)[i]?=some x->Den K (hide H1 S) x v):=by
 have hl:(rngL lo n).length=n:=by unfold rngL;simp
 refine⟨λe=>by rw[hl] at e;exact Nat.le_of_eq e.symm,λh=>⟨by rw[hl] at h;exact h,λv H3 y=>⟨y.1,λx ex=>?_⟩⟩⟩;rw[hl] at h;have:(rngL lo n)[i]?=some (D.int (lo+i)):=by unfold rngL;simp[h]
 rw[this] at ex;cases ex;exact y.2
noncomputable def zGh (f:Dst->Option R):Dst->Option (List D):=λO=>match f O with
 | some (.int j,_)=>if -(2^62)<=j/\j < 2^62 then some (rngL 0 j.toNat) else none
 | _=>none
theorem zJ4 (hg:Gl X "range")(hm:X.mg "range"=none)(h:GE X a f)(hs:starEach [a] X.env=[(false,eval a X.env)]):GI X tg (.Call (.Name "range" p) [a] [] pos) (zGh f):=by
 refine⟨_,zFx hg hm (zAa h zA2 hs) hs,λB H S O xs Rr ds e q=>?_⟩;unfold zGh at e;split at e
 .rename_i j k ej;by_cases hj:-(2^62)<=j/\j < 2^62
  .rw [if_pos hj] at e;cases e;exact⟨S,O,_,ds,ej,λv H1 s1 r1=>⟨j,by rw[r1.rd.int],hj.1,hj.2,q _ H1 s1 λi H2 hi _=>zFv i H2 hi⟩⟩
  .simp_all
 .cases e
noncomputable def zFw (f g:Dst->Option R):Dst->Option (List D):=λO=>match f O,g O with
 | some (.int i,_),some (.int j,_)=>if (-(2^62)<=i/\i < 2^62)/\-(2^62)<=j/\j < 2^62 then some (rngL i (j - i).toNat) else none
 | _,_=>none
theorem zJ3 (hg:Gl X "range")(hm:X.mg "range"=none)(ha:GE X a f)(hb:GE X b g)(hs:starEach [a,b] X.env=(false,eval a X.env)::starEach [b] X.env)(hs2:starEach [b] X.env=[(false,eval b X.env)]):GI X tg (.Call (.Name "range" p) [a,b] [] pos) (zFw f g):=by
 refine⟨_,zJC hg hm (zAa ha (zAa hb zA2 hs2) hs) (by simp_all) hs2,λB H S O xs Rr ds e q=>?_⟩;unfold zFw at e;split at e
 .rename_i i k j k2 ei ej;by_cases hj:(-(2^62)<=i/\i < 2^62)/\-(2^62)<=j/\j < 2^62
  .rw [if_pos hj] at e;cases e;exact⟨S,O,_,ds,ei,λv H1 s1 r1=>⟨S,O,_,ds.mono s1,ej,λu H2 s2 r2=>⟨i,j,by rw[r1.rd.int,r2.rd.int],⟨hj.1.1,hj.1.2,hj.2.1,hj.2.2⟩,q _ H2 (s1.trans s2) λi H2 hi _=>zFv i H2 hi⟩⟩⟩
  .rw [if_neg hj] at e;cases e
 .cases e
noncomputable def frzD (i:Nat):Dst->Option Out:=λO=>match O[i]? with
 | some (some (d,true))=>some (.nx (O.set i (some (d,false))))
 | _=>some (.nx O)
theorem zRl :∀ O o,frzD i O=some o->∃ O2,o=.nx O2/\∀ K H S B,DS K H S B O->∃ S',(∀ b∈S',b∈S)/\DS K H S' B O2:=λO o e=>by
 unfold frzD at e;split at e
 .rename_i d q;cases e;exact⟨_,rfl,λK H S B ds=>ds.freeze q⟩
 .cases e;exact⟨_,rfl,λK H S B ds=>⟨S,λ_ z=>z,ds⟩⟩
noncomputable def dFun (np nN:Nat)(g:Dst->Option Out)(ds:List D):Option R :=
 if ds.length=np/\np<=nN then (g (ds.map (λd=>some (d,false))++List.replicate (nN - np) none)).bind λo=>match o with
  | .rt r=>some r
  | .nx _=>some (.non,.cl)
  | _=>none
 else none
theorem zMT {K:W.Frag}(h:DenL K H ds vs)(hl:ds.length<=N.length):DS K H [] (zCL N vs) (ds.map (λd=>some (d,false))++List.replicate (N.length - ds.length) none):=by
 have el:=h.length;refine⟨by unfold L2.zCL;simp[<- el],λa z=>absurd z (by simp),λi d o q=>?_,λi j d e a q1 _ _ _=>?_⟩
 .have hi:i < ds.length:=by
   by_cases z:i < ds.length
   .exact z
   .rw [getElem?_append_right (by simpa using z),getElem?_replicate] at q;split at q<;>cases q
  rw[getElem?_append_left (by simpa using hi),getElem?_map] at q;cases e:ds[i]? with
  | none=>rw[e] at q;cases q
  | some d' =>
   rw[e] at q;cases q;obtain⟨v,q1,q2⟩:=h.get e;refine⟨v,?_,.of_den (by rw[zC1];exact q2)⟩;unfold L2.zCL;rw[getElem?_append_left (by simp_all),getElem?_map,q1]
   rfl
 .have hi:i < ds.length:=by
   by_cases z:i < ds.length
   .exact z
   .rw [getElem?_append_right (by simpa using z),getElem?_replicate] at q1;split at q1<;>cases q1
  rw[getElem?_append_left (by simpa using hi),getElem?_map] at q1
  simp_all
theorem zRk {K:W.Frag}{st:Stmt}(F:Fun K x qual st f fd)(S:zAq N ps (zAA st))
  (hbody:∀ (cdv:Value) (A:Around) (outer:List Env) (s:Shared) (H:Hp) (E:XK),Room k (A.deeper (envOfC qual (zAA st) s.heap.objs.size f cdv))->GSs (cxOf CX0 P w K mg base N qual (zAA st) f cdv A outer s H E).nox (zAK st) g) :
  FnOk P w K mg base CX0 (k+1) f fd ps (spD K (dFun ps.length N.length g)):=by
 refine FnOk.framed (F.ok S (λvs H Q E h=>?_) λcdv A outer s H vs Q E hr h=>?_)
 .obtain ⟨ds,r,hd,hF,hk,c⟩:=h;unfold dFun at hF;by_cases q:ds.length=ps.length/\ps.length<=N.length
  .rw [<- hd.length];exact q.1
  .simp_all
 obtain⟨ds,r,hd,hF,hk,c⟩:=h;refine⟨_,hbody cdv A outer s H E hr H,?_⟩;unfold dFun at hF;by_cases q:ds.length=ps.length/\ps.length<=N.length
 .rw [if_pos q] at hF;obtain⟨o,eo,hF⟩:=bind_some hF;rw[<- q.1] at eo;refine⟨[],_,o,zMT hd (by rw[q.1];exact q.2),by rw[zC1];exact Same.refl _,eo,?_⟩;cases o with
  | nx O2 =>
   cases hF;exact λS' O1 H' d' s'=>c _ H' (s'.trans zAt) rfl
  | rt r' =>
   cases hF;exact⟨hk,c⟩
  | bk O2=>cases hF
  | ct O2=>cases hF
 .rw [if_neg q] at hF;cases hF
end
end DL
end
section
namespace DL
open PySem
noncomputable def zCI (env:Env):List (Str×NameKind)->List (Str×Addr)->List (Str×Addr)
 | [],acc=>acc
 | (n,k)::r,acc=>zCI env r (if k==.free then (match env.cells.lookup n with | some c=>(n,c)::acc | none=>acc) else acc)
theorem zFe (f:Str×NameKind->List (Str×Addr)->Sem (ForInStep (List (Str×Addr))))
  (hf:∀ n k cs,f (n,k) cs=if k==.free then (do let a<-cellOf env n;pure (.yield ((n,a)::cs))) else pure (.yield cs)) :
  ∀ (names:List (Str×NameKind)) (acc:List (Str×Addr)),(∀ x∈names,x.2=.free->∃ c,env.cells.lookup x.1=some c)->forIn names acc f=(pure (zCI env names acc):Sem (List (Str×Addr)))
 | [],acc,_=>by rw[List.forIn_nil];rfl
 | (n,k)::r,acc,h=>by
  rw[forIn_cons,hf];have hr:∀ x∈r,x.2=.free->∃ c,env.cells.lookup x.1=some c:=λx z=>h x (qY _ z)
  cases e:k==.free with
  | true =>
   obtain⟨c,ec⟩:=h (n,k) q8 (by simpa using e);have e1:cellOf env n=pure c:=by unfold cellOf;rw[ec]
   rw[if_pos rfl,e1];unfold zCI;rw[e,if_pos rfl,ec];exact zFe f hf r _ hr
  | false =>
   rw[if_neg qX];unfold zCI;rw[e,if_neg qX];exact zFe f hf r _ hr
theorem zBo (h:∀ x∈scope.names,x.2=.free->∃ c,env.cells.lookup x.1=some c):closureFor scope env=pure (zCI env scope.names []):=by
 show (forIn scope.names _ _>>=λcs=>pure cs)=_;rw[zFe _ (λn k cs=>rfl) scope.names [] h]
 rfl
theorem zGN :∀ (names:List (Str×NameKind)) (acc:List (Str×Addr)),(∀ x c,acc.lookup x=some c->env.cells.lookup x=some c)->∀ x c,(zCI env names acc).lookup x=some c->env.cells.lookup x=some c
 | [],acc,h,x,c,e=>h x c e
 | (n,k)::r,acc,h,x,c,e=>by
  unfold zCI at e;refine zGN r _ ?_ x c e;intro y d q;cases z:k==.free with
  | false=>rw[z,if_neg qX] at q;exact h y d q
  | true =>
   rw[z,if_pos rfl] at q;cases w:env.cells.lookup n with
   | none=>rw[w] at q;exact h y d q
   | some c' =>
    rw[w] at q;dsimp only at q;rw[lookup_cons] at q;cases b:y==n with
    | true =>
     rw[b] at q;cases q;have:y=n:=by simpa using b
     rw[this];exact w
    | false=>rw[b] at q;exact h y d q
theorem zE1 :∀ (names:List (Str×NameKind)) (acc:List (Str×Addr)),(∃ c,acc.lookup x=some c)->∃ c,(zCI env names acc).lookup x=some c
 | [],acc,h=>h
 | (n,k)::r,acc,h=>by
  unfold zCI;refine zE1 r _ ?_;cases z:k==.free with
  | false=>rw[if_neg qX];exact h
  | true =>
   rw[if_pos rfl];cases w:env.cells.lookup n with
   | none=>exact h
   | some c' =>
    dsimp only;rw[lookup_cons];cases b:x==n with
    | true=>exact⟨_,rfl⟩
    | false=>exact h
theorem zEP :∀ (names:List (Str×NameKind)) (acc:List (Str×Addr)),(x,NameKind.free)∈names->(∃ c,env.cells.lookup x=some c)->∃ c,(zCI env names acc).lookup x=some c
 | (n,k)::r,acc,hm,hc=>by
  unfold zCI;rcases mem_cons.mp hm with e | hm
  .cases e;obtain⟨c,hc⟩:=hc;refine zE1 r _ ?_;rw[show (NameKind.free==NameKind.free)=true from rfl,if_pos rfl,hc];exact⟨c,by rw[lookup_cons];simp⟩
  .exact zEP r _ hm hc
theorem zE0 :∀ (names:List (Str×NameKind)) (acc:List (Str×Addr)) (c:Addr),(zCI env names acc).lookup x=some c->(x,NameKind.free)∈names\/∃ c,acc.lookup x=some c
 | [],acc,c,h=>.inr ⟨c,h⟩
 | (n,k)::r,acc,c,h=>by
  unfold zCI at h;rcases zE0 r _ c h with q | ⟨d,q⟩
  .exact .inl (qY _ q)
  .cases z:k==.free with
   | false=>rw[z,if_neg qX] at q;exact .inr ⟨d,q⟩
   | true =>
    rw[z,if_pos rfl] at q;cases w:env.cells.lookup n with
    | none=>rw[w] at q;exact .inr ⟨d,q⟩
    | some c' =>
     rw[w] at q;dsimp only at q;rw[lookup_cons] at q;cases b:x==n with
     | true =>
      have e1:x=n:=by simpa using b
      have e2:k=.free:=by simpa using z
      subst e1 e2;exact .inl q8
     | false=>rw[b] at q;exact .inr ⟨d,q⟩
theorem zCX :∀ (names:List (Str×NameKind)) (n:Nat) (acc:List (Str×Addr)) (c:Addr),(cellsFrom n names acc).lookup x=some c->((x,NameKind.cell)∈names/\n<=c)\/acc.lookup x=some c
 | [],n,acc,c,h=>.inr h
 | (y,k)::r,n,acc,c,h=>by
  unfold cellsFrom at h;cases z:k==.cell with
  | false =>
   rw[z,if_neg qX] at h;rcases zCX r n acc c h with ⟨q1,q2⟩ | q
   .exact .inl ⟨qY _ q1,q2⟩
   .exact .inr q
  | true =>
   rw[z,if_pos rfl] at h;rcases zCX r (n+1) _ c h with ⟨q1,q2⟩ | q
   .exact .inl ⟨qY _ q1,by omega⟩
   .rw [lookup_cons] at q;cases b:x==y with
    | true =>
     rw[b] at q;cases q;have e1:x=y:=by simpa using b
     have e2:k=.cell:=by simpa using z
     subst e1 e2;exact .inl ⟨q8,le_refl _⟩
    | false=>rw[b] at q;exact .inr q
section
variable {M:Model}{A:Around}{E:Value->Shared->Prop}{s:Shared}
theorem zD1 
  (hQ:Q (newEnv scope s.heap.objs.size globals (cellsFrom (s.heap.objs.size+1) scope.names cl) qual none .none (some outer) builtinsNs) { s with heap:=pushCells (s.heap.push { cls:=.type "dict",data:=.dict #[] }) scope.names }) :
  wpAny M A (newFunctionEnv scope globals cl [] qual none .none (some outer)) Q E s:=by
 refine qQ (wpAny_alloc ?_);refine qQ (wpAny_layCells _ λname kind cells=>by cases hkc:kind==NameKind.cell<;>simp[hkc] _ _ _ _ ?_);simp;exact qQ (q9 (q9 hQ))
end
section
variable {prog:Program}{w:World}{A:Around}{R:Result->Shared->Prop}{s:Shared}
abbrev NB (prog:Program) (w:World) (A:Around) (env:Env) (R:Result->Shared->Prop):Value->Shared->Prop:=notedBy (model prog w) A env λe s'=>R (.error e) s'
theorem zDd (I:Nat->Shared->Prop)
  (turn:∀ n s,I n s->wpAny (model prog w) A (pyNext it) (λr O3=>match r with
   | none=>R (.ok .next) O3
   | some v=>wpAny (model prog w) A (letOwnedTupleGo target it v) (λ_ s1'=>wpAny (model prog w) A (assign target env v) (λ_ O9 =>
     wpAny (model prog w) A (forIn ifs true λc r=>if r=true then do let ok<-isTrue c env (eval c env);pure (ForInStep.yield ok) else pure (ForInStep.yield r)) (λok Y2 =>
      if ok=true then wpAny (model prog w) A (eval elt env) (λx Z4 =>
       wpAny (model prog w) A (call (.builtin "list.append") [acc,x]) (λ_ U3=>∃ m,m < n/\I m U3) (NB prog w A env R) Z4) (NB prog w A env R) Y2
      else ∃ m,m < n/\I m Y2) (NB prog w A env R) O9) (NB prog w A env R) s1') (NB prog w A env R) O3) (NB prog w A env R) s)
  (n:Nat) (h:I n s) :
  codeAny (model prog w) A (.compLoop (.ListComp elt [⟨target,iter,ifs,0⟩] scope pos) 0 it acc env) R s:=by
 refine codeAny_loop rfl I (λn s hI=>?_) n h;show wpAny _ A ((compTurn (.ListComp elt [⟨target,iter,ifs,0⟩] scope pos) 0 it acc env).onRaise (λx=>do noteFrame x env;theTreesLotGoes x)) _ _ s;refine wpAny_noted ?_;rw[compTurn_list];refine qQ (wpAny_standAt (qQ (wpAny_mono (turn n s hI) (λr O3 O8=>?_) λ_ _ h'=>h')));cases r with
 | none=>exact q9 O8
 | some v =>
  refine qQ (wpAny_mono O8 (λ_ s1' U6=>?_) λ_ _ h'=>h');refine qQ (wpAny_mono U6 (λ_ O9 Y4=>qQ (wpAny_mono Y4 (λok Y2 Y5=>?_) λ_ _ h'=>h')) λ_ _ h'=>h');cases ok with
  | false=>exact q9 ⟨rfl,Y5⟩
  | true =>
   exact qQ (qQ (wpAny_mono Y5 (λx Z4 U7=>qQ (wpAny_mono U7 (λ_ U3 U8=>q9 (q9 ⟨rfl,U8⟩)) λ_ _ h'=>h')) λ_ _ h'=>h'))
end
end DL
end
section
namespace DL
open PySem Spec PyProof.Rows L2
noncomputable def relS (sc scope:Scope):Scope :=
 { scope with names:=scope.names.map λ(n,k)=>if (k==.free&&sc.kind==.function&&sc.names.lookup n==some .cell) then (n,.cell) else (n,k) }
theorem zDW {names:List (Str×NameKind)}:names.lookup x=some k->(x,k)∈names:=λh=>PySem.mem_of_lookup h
theorem zCz:∀ {names:List (Str×NameKind)} {x:Str} {k:NameKind},(names.map (·.1)).Nodup->(x,k)∈names->names.lookup x=some k
 | (y,j)::r,x,k,nd,hm=>by
  rw[map_cons,nodup_cons] at nd;rw[lookup_cons];rcases mem_cons.mp hm with e | hm2
  .cases e;simp
  .have ne:(x==y)=false:=by
    cases b:x==y with
    | false=>rfl
    | true =>
     have e1:x=y:=by simpa using b
     exact absurd (show y∈r.map (·.1) from mem_map.mpr ⟨(x,k),hm2,e1⟩) nd.1
   rw[ne];exact zCz nd.2 hm2
theorem zC0 {sc:Scope}:∀ (names:List (Str×NameKind)) (x:Str),(names.map λ(n,k)=>if (k==NameKind.free&&sc.kind==.function&&sc.names.lookup n==some .cell) then (n,NameKind.cell) else (n,k)).lookup x =
  (names.lookup x).map λk=>if (k==NameKind.free&&sc.kind==.function&&sc.names.lookup x==some .cell) then NameKind.cell else k
 | [],x=>rfl
 | (n,k)::r,x=>by
  rw[map_cons,lookup_cons];have ih:=zC0 (sc:=sc) r x;cases b:x==n with
  | true =>
   have e1:x=n:=by simpa using b
   subst e1;dsimp only;by_cases c:(k==NameKind.free&&sc.kind==.function&&sc.names.lookup x==some .cell)=true
   .rw [if_pos c,lookup_cons];simp only[beq_self_eq_true,Option.map_some,if_pos c]
   .rw [if_neg c,lookup_cons];simp only[beq_self_eq_true,Option.map_some,if_neg c]
  | false =>
   dsimp only;by_cases c:(k==NameKind.free&&sc.kind==.function&&sc.names.lookup n==some .cell)=true
   .rw [if_pos c,lookup_cons,b];exact ih
   .rw [if_neg c,lookup_cons,b];exact ih
noncomputable def ownB (scope:Scope)(y:Str):Bool:=match scope.names.lookup y with
 | some .local=>true
 | some .cell=>true
 | _=>false
structure zCv (sc scope:Scope):Prop where
 kind:scope.kind=.function
 nd:(scope.names.map (·.1)).Nodup
 fr:∀ x∈scope.names,x.2=.free->sc.names.lookup x.1=some .cell\/sc.names.lookup x.1=some .free
theorem zCV:∀ (names:List (Str×NameKind)) (n:Nat) (acc:List (Str×Addr)),(∀ x y c,acc.lookup x=some c->acc.lookup y=some c->x=y)->(∀ x c,acc.lookup x=some c->c < n)->∀ x y c,(cellsFrom n names acc).lookup x=some c->(cellsFrom n names acc).lookup y=some c->x=y
 | [],n,acc,h1,_,x,y,c,e1,e2=>h1 x y c e1 e2
 | (z,k)::r,n,acc,h1,h2,x,y,c,e1,e2=>by
  unfold cellsFrom at e1 e2;cases b:k==.cell with
  | false =>
   rw[b,if_neg qX] at e1 e2;exact zCV r n acc h1 h2 x y c e1 e2
  | true =>
   rw[b,if_pos rfl] at e1 e2;refine zCV r (n+1) _ ?_ ?_ x y c e1 e2
   .intro x y c q1 q2;rw[lookup_cons] at q1 q2;cases b1:x==z with
    | true =>
     cases b2:y==z with
     | true =>
      have e3:x=z:=by simpa using b1
      have e4:y=z:=by simpa using b2
      rw[e3,e4]
     | false =>
      rw[b1] at q1;rw[b2] at q2;cases q1;exact absurd (h2 y _ q2) (lt_irrefl _)
    | false =>
     cases b2:y==z with
     | true =>
      rw[b1] at q1;rw[b2] at q2;cases q2;exact absurd (h2 x _ q1) (lt_irrefl _)
     | false =>
      rw[b1] at q1;rw[b2] at q2;exact h1 x y c q1 q2
   .intro x c q1;rw[lookup_cons] at q1;cases b1:x==z with
    | true=>rw[b1] at q1;cases q1;exact Nat.lt_succ_self _
    | false=>rw[b1] at q1;exact Nat.lt_succ_of_lt (h2 x c q1)
theorem zBK :∀ (names:List (Str×NameKind)) (n:Nat) (acc:List (Str×Addr)),(∃ c,acc.lookup x=some c)->∃ c,(cellsFrom n names acc).lookup x=some c
 | [],n,acc,h=>h
 | (z,k)::r,n,acc,h=>by
  unfold cellsFrom;cases b:k==.cell with
  | false=>rw[if_neg qX];exact zBK r n acc h
  | true =>
   rw[if_pos rfl];refine zBK r (n+1) _ ?_;rw[lookup_cons];cases b1:x==z with
   | true=>exact⟨_,rfl⟩
   | false=>exact h
theorem zCW :∀ (names:List (Str×NameKind)) (n:Nat) (acc:List (Str×Addr)),(x,NameKind.cell)∈names->∃ c,(cellsFrom n names acc).lookup x=some c
 | (z,k)::r,n,acc,hm=>by
  unfold cellsFrom;rcases mem_cons.mp hm with e | hm
  .cases e;rw[show (NameKind.cell==NameKind.cell)=true from rfl,if_pos rfl];exact zBK r (n+1) _ ⟨n,by rw[lookup_cons];simp⟩
  .cases b:k==.cell with
   | false=>rw[if_neg qX];exact zCW r n acc hm
   | true=>rw[if_pos rfl];exact zCW r (n+1) _ hm
theorem zAr:∀ (names:List (Str×NameKind)) (h:Heap) (b:Addr) (o:Obj),h.get? b=some o->(pushCells h names).get? b=some o
 | [],h,b,o,e=>e
 | (z,k)::r,h,b,o,e=>by
  unfold pushCells;cases c:k==.cell with
  | false=>rw[if_neg qX];exact zAr r h b o e
  | true=>rw[if_pos rfl];exact zAr r _ b o (get?_push_of_some _ e)
theorem zCC:∀ (names:List (Str×NameKind)) (h:Heap) (acc:List (Str×Addr)),(∀ x c,acc.lookup x=some c->∃ v,h.IsCell c v)->∀ x c,(cellsFrom h.objs.size names acc).lookup x=some c->∃ v,(pushCells h names).IsCell c v
 | [],h,acc,q,x,c,e=>q x c e
 | (z,k)::r,h,acc,q,x,c,e=>by
  unfold cellsFrom at e;unfold pushCells;cases b:k==.cell with
  | false =>
   rw[b,if_neg qX] at e;rw[if_neg qX];exact zCC r h acc q x c e
  | true =>
   rw[b,if_pos rfl] at e;rw[if_pos rfl];have es:(h.push { cls:=.type "cell",data:=.cell none }).objs.size=h.objs.size+1:=Heap.size_push ..;rw[<- es] at e;refine zCC r (h.push { cls:=.type "cell",data:=.cell none }) ((z,h.objs.size)::acc) ?_ x c e;intro y d p;rw[lookup_cons] at p;cases b1:y==z with
   | true =>
    rw[b1] at p;cases p;exact⟨none,_,get?_push_size _ rfl,rfl⟩
   | false =>
    rw[b1] at p;obtain⟨v,o,ho,hd⟩:=q y d p;exact⟨v,o,get?_push_of_some _ ho,hd⟩
noncomputable def zBn (scope:Scope)(X:Cx)(s:Shared):Env :=
 { newEnv scope s.heap.objs.size X.env.globals (cellsFrom (s.heap.objs.size+1) scope.names (zCI X.env scope.names [])) X.env.qual none .none (some X.env) builtinsNs with scope:=relabel scope X.env }
noncomputable def zAW (X:Cx)(N:List Str)(scope:Scope)(s:Shared)(H:Hp)(fp:List Addr):Cx :=
 { X with N:=N,s0:=s,Y7:=H,env:=zBn scope X s,outer:=X.stack,stack:=X.stack,ex:=fp,fn:=ownB scope,pn:=[],xe:=λ_ _=>False }
section
variable {X:Cx}{pins:List (Addr×Obj)}{B σc:St}{H:Hp}{s:Shared}{fp:List Addr}{scope:Scope}{N:List Str}
theorem zEO (I:Inv X pins B H s)(cs:zCv X.env.scope scope):∀ x∈scope.names,x.2=.free->∃ c,X.env.cells.lookup x.1=some c:=λx hx hf =>
 I.ok.has x.1 (cs.fr x hx hf)
theorem zHl (I:Inv X pins B H s)(hf:∀ b∈fp,FpOk X pins H b/\∃ o,s.heap.get? b=some o)(cs:zCv X.env.scope scope)
  (Z7:∀ (i:Nat) (x:Str) (v:V),N[i]?=some x->σc[i]?=some (some v)->Vis (relS X.env.scope scope) x->scope.names.lookup x=some .free/\∃ j:Nat,X.N[j]?=some x/\B[j]?=some (some v)) (hlen:σc.length=N.length) :
  Inv (zAW X N scope s H fp) [] σc H { s with heap:=pushCells (s.heap.push { cls:=.type "dict",data:=.dict #[] }) scope.names }:=by
 have kp:∀ b o,s.heap.get? b=some o->(pushCells (s.heap.push { cls:=.type "dict",data:=.dict #[] }) scope.names).get? b=some o:=λb o e=>zAr _ _ b o (get?_push_of_some _ e)
 have cl_env:∀ x c,(zCI X.env scope.names []).lookup x=some c->X.env.cells.lookup x=some c:=λx c e=>zGN scope.names [] (λ_ _ q=>by simp at q) x c e
 have cl_lt:∀ x c,(zCI X.env scope.names []).lookup x=some c->c < s.heap.objs.size:=λx c e=>by
  obtain⟨v,q⟩:=I.cell x c (cl_env x c e);exact q.lt
 have cells:∀ x c,(zBn scope X s).cells.lookup x=some c->((x,NameKind.cell)∈scope.names/\s.heap.objs.size+1<=c)\/(zCI X.env scope.names []).lookup x=some c:=λx c e=>zCX scope.names _ _ c e
 have kd:∀ x,(zBn scope X s).kindOf x=(scope.names.lookup x).map λk=>if (k==NameKind.free&&X.env.scope.kind==.function&&X.env.scope.names.lookup x==some .cell) then NameKind.cell else k:=λx=>zC0 (sc:=X.env.scope) scope.names x
 have hes:(s.heap.push { cls:=.type "dict",data:=.dict #[] }).objs.size=s.heap.objs.size+1:=Heap.size_push ..;refine⟨⟨I.ok.mod,cs.kind,I.ok.glob,I.ok.blt,le_refl _,λx y c h1 h2=>?_,λx hx=>?_,λx c hx h=>?_,I.ok.hd,I.ok.frames,.inl rfl,λb hb=>⟨?_,λx c h z=>?_⟩,λb o e=>I.bs b o e,le_trans I.ok.bsz I.sz,λb o e hb=>?_,λb hb z=>?_,I.stack,I.stkFree,I.ok.pyl,I.tabs⟩,
  rfl,I.bare,Un.kept kp,⟨λ_=>none,?_,λi x v h1 h2 h3=>?_⟩,λx c h=>?_,I.hok.fresh (le_refl _),λx c h=>?_,λp hp=>absurd (show p∈([]:List (Addr×Obj)) from hp) (by simp),I.hok.kept kp,hlen⟩
 .exact zCV scope.names _ _ (λx y c q1 q2=>I.ok.inj x y c (cl_env x c q1) (cl_env y c q2)) (λx c q=>Nat.lt_succ_of_lt (cl_lt x c q)) x y c h1 h2
 .replace hx:(zBn scope X s).kindOf x=some .cell\/(zBn scope X s).kindOf x=some .free:=hx;rw[kd x] at hx;cases q:scope.names.lookup x with
  | none=>rw[q] at hx;simp at hx
  | some k =>
   rw[q] at hx;by_cases kf:k=.free
   .subst kf;have hm:=zDW q;exact zBK scope.names _ _ (zEP scope.names [] hm (zEO I cs _ hm rfl))
   .have e1:(k==NameKind.free)=false:=by simpa using kf
    simp only[e1,Bool.false_and,Option.map_some,Bool.false_eq_true,if_false] at hx;rcases hx with hx | hx
    .cases hx;exact zCW scope.names _ _ (zDW q)
    .cases hx;exact absurd rfl kf
 .rcases cells x c h with ⟨_,q⟩ | q
  .exact le_trans (Nat.le_succ _) q
  .rcases zE0 scope.names [] c q with hm | ⟨d,hm⟩
   .have e1:=zCz cs.nd hm;have hx':ownB scope x=true:=hx;unfold ownB at hx';rw[e1] at hx';cases hx'
   .simp at hm
 .obtain ⟨_,o,e⟩:=hf b hb;exact ne_of_lt (lt_size e)
 .obtain ⟨⟨f0,f1,f2,f3,f4,f5⟩,o,e⟩:=hf b hb;rcases cells x c h with ⟨_,q⟩ | q
  .have:=lt_size e;rw[z] at q;exact absurd (xQ (Nat.lt_succ_of_lt this) q) (lt_irrefl _)
  .exact f4 x c (cl_env x c q) z
 .obtain ⟨⟨f0,f1,f2,f3,f4,f5⟩,_⟩:=hf b hb;rcases f3 with f3 | f3
  .exact I.ok.noex b o e f3
  .exact absurd (xQ (lt_size e) (le_trans I.ok.bsz f3)) (lt_irrefl _)
 .obtain ⟨⟨f0,f1,f2,f3,f4,f5⟩,_⟩:=hf b hb;rcases mem_cons.mp (I.stkSub b z) with q | q
  .exact f1 q
  .exact f2 q
 .exact (Heap.Ns.new s.heap (.type "dict")).keeps (zAr _ _)
 .obtain ⟨q1,j,q2,q3⟩:=Z7 i x v h1 h2 h3;have hm:=zDW q1;have hv:=cs.fr _ hm rfl;obtain⟨m,hn,hl⟩:=I.loc;obtain⟨u,ru,lk⟩:=hl j x v q2 q3 (hv.elim (λe=>.inr (.inl e)) λe=>.inr (.inr e));refine⟨u,ru,.inr ⟨?_,?_⟩⟩
  .show (zBn scope X s).kindOf x=_\/(zBn scope X s).kindOf x=_;rw[kd x,q1];dsimp only[Option.map_some];split
   .exact .inl rfl
   .exact .inr rfl
  .rcases lk with ⟨k1,_⟩ | ⟨_,c,k2,k3⟩
   .have k1':X.env.scope.names.lookup x=some .local:=k1
    simp_all
   .obtain ⟨c',e'⟩:=zBK scope.names (s.heap.objs.size+1) _ (zEP (env:=X.env) scope.names [] hm ⟨c,k2⟩);refine⟨c',e',?_⟩;rcases cells x c' e' with ⟨z,_⟩ | z
    .have:=zCz cs.nd z;rw[q1] at this;cases this
    .have:=cl_env x c' z;rw[k2] at this;cases this;exact k3.keeps kp
 .have e':(cellsFrom (s.heap.push { cls:=.type "dict",data:=.dict #[] }).objs.size scope.names (zCI X.env scope.names [])).lookup x=some c:=by rw[hes];exact h
  exact zCC scope.names _ _ (λy d q=>by
   obtain⟨v,w⟩:=I.cell y d (cl_env y d q);exact⟨v,w.keeps λb o e=>get?_push_of_some _ e⟩) x c e'
 .rcases cells x c h with ⟨_,q⟩ | q
  .exact I.hok.fresh (le_trans (Nat.le_succ _) q)
  .exact I.freeC x c (cl_env x c q)
end
abbrev noN:Str := ""
noncomputable def mask {U:Type}(z:U):List Nat->List U->List U
 | [],l=>l
 | m::ms,l=>mask z ms (l.set m z)
theorem zA0 {U:Type}(z:U):∀ (ms:List Nat) (l:List U),(mask z ms l).length=l.length
 | [],l=>rfl
 | m::ms,l=>by unfold mask;rw[zA0 z ms,length_set]
theorem zBP {U:Type}{z y:U}{i:Nat}:∀ {ms:List Nat} {l:List U},(mask z ms l)[i]?=some y->(y=z/\i∈ms)\/(l[i]?=some y/\i∉ms)
 | [],l,h=>.inr ⟨h,by simp⟩
 | m::ms,l,h=>by
  unfold mask at h;rcases zBP h with ⟨e,hm⟩ | ⟨e,hm⟩
  .exact .inl ⟨e,qY _ hm⟩
  .rcases zAe e with ⟨e1,e2,_⟩ | ⟨ne,e1⟩
   .exact .inl ⟨e2,by rw[<- e1];exact q8⟩
   .exact .inr ⟨e1,λz=>(mem_cons.mp z).elim (λq=>ne q.symm) hm⟩
theorem zFT {U:Type}{z:U}{i:Nat}:∀ {ms:List Nat} {l:List U},i∉ms->(mask z ms l)[i]?=l[i]?
 | [],l,_=>rfl
 | m::ms,l,h=>by
  unfold mask;rw[zFT λq=>h (qY _ q),getElem?_set_ne λq=>h (by rw[q];exact q8)]
theorem zB6 {U:Type}{l:List (Option U)}{k i:Nat}{y:U}(h:(l++List.replicate k none)[i]?=some (some y)):l[i]?=some (some y)/\i < l.length:=by
 by_cases hi:i < l.length
 .rw [getElem?_append_left hi] at h;exact⟨h,hi⟩
 .rw [getElem?_append_right (by omega),getElem?_replicate] at h;grind
theorem DS.ext {K:W.Frag}(h:DS K H S B O)(ms:List Nat)(k:Nat):DS K H S (mask none ms B++List.replicate k none) (mask none ms O++List.replicate k none):=by
 refine⟨by rw[qj,qj,zA0,zA0,h.len,length_replicate,length_replicate],h.sok,λi d o q=>?_,λi j d e a q1 q2 q3 q4=>?_⟩
 .obtain ⟨q,hi⟩:=zB6 q;rcases zBP q with ⟨z,_⟩ | ⟨q,ni⟩
  .cases z
  .obtain ⟨v,w1,w2⟩:=h.get i d o q;exact⟨v,by rw[getElem?_append_left (by rw[zA0] at hi ⊢;rw[h.len];exact hi),zFT ni];exact w1,w2⟩
 .obtain ⟨q1,_⟩:=zB6 q1;obtain⟨q2,_⟩:=zB6 q2;obtain⟨q3,_⟩:=zB6 q3;obtain⟨q4,_⟩:=zB6 q4;rcases zBP q1 with ⟨z,_⟩ | ⟨q1,_⟩
  .cases z
  rcases zBP q2 with ⟨z,_⟩ | ⟨q2,_⟩
  .cases z
  rcases zBP q3 with ⟨z,_⟩ | ⟨q3,_⟩
  .cases z
  rcases zBP q4 with ⟨z,_⟩ | ⟨q4,_⟩
  .cases z
  exact h.inj i j d e a q1 q2 q3 q4
noncomputable def zGM (t:D->Dst->Option Dst)(c:Dst->Option Bool)(e:Dst->Option R):List D->Dst->Option (List D)
 | [],_=>some []
 | x::xs,O=>(t x O).bind λO7=>(c O7).bind λb=>if b=true then (e O7).bind λr=>if r.2=.dt then none else (zGM t c e xs O7).bind λys=>some (r.1::ys) else zGM t c e xs O7
noncomputable def zHE (ms:List Nat)(k:Nat)(f:Dst->Option (List D))(t:D->Dst->Option Dst)(c:Dst->Option Bool)(e:Dst->Option R):Dst->Option R:=λO =>
 (f O).bind λzs=>if zs.length<=10000 then (zGM t c e zs (mask none ms O++List.replicate k none)).bind λys=>some (.lst ys,.fr) else none
def GCs (X:Cx)(ifs:List Expr)(c:Dst->Option Bool):Prop:=∀ (pins:List (Addr×Obj)) (s:Shared) (B:St) (H:Hp) (Q:Bool->Hp->Prop),Inv X pins B H s->gB X.K c B H Q ->
 wpAny (model X.prog X.w) X.A (forIn ifs true λc r=>if r=true then do let ok<-isTrue c X.env (eval c X.env);pure (ForInStep.yield ok) else pure (ForInStep.yield r)) (TP X pins B Q) X.xe s
section
variable {X:Cx}
theorem zO3:GCs X [] (λ_=>some true):=λpins s B H Q I zy157=>by obtain⟨S,O,b,ds,e,c⟩:=zy157;exact wpAny_tests_nil ⟨H,I,by cases e;exact c H (Same.refl _)⟩
theorem zO2 (h:GT X a c):GCs X [a] c:=λpins s B H Q I q=>wpAny_tests_one (h pins s B H Q I q)
theorem zGJ (hcalm:X.calm=true)(hi:GI X tg iter f)(cs:zCv X.env.scope scope)
  (hm:∀ (i:Nat) x,X.N[i]?=some x->ownB scope x=true->i∈ms)
  (hg:∀ s H fp,GG (zAW X (mask noN ms X.N++xs) scope s H fp) tg t)
  (hc:∀ s H fp,GCs (zAW X (mask noN ms X.N++xs) scope s H fp) ifs c) (he:∀ s H fp,GE (zAW X (mask noN ms X.N++xs) scope s H fp) elt e)
         (I:Inv X pins B H s) (ds:DS X.K H S B O) (ez:f O=some zs) (hz:zs.length<=10000) (ey:zGM t c e zs (mask none ms O++List.replicate xs.length none)=some ys)
  {RR:Value->Addr->Result->Shared->Prop}
  (fin:∀ (D C:Addr) (s1:Shared) (H'':Hp) (m:Str->Option Value),s1.heap.Ns C m->(∀ h',Heap.SameBut C s1.heap h'->Inv X pins B H'' { s1 with heap:=h' })->H'' C=none->C≠X.env.locals->C∉X.fs->X.s0.heap.objs.size<=C ->
   (∀ x c,X.env.cells.lookup x=some c->c≠C)->(∀ p∈X.pn++pins,p.1≠C)->Same H H''->RV X.K H H'' S (.lst ys,.fr) (.ref D)->RR (.ref D) C (.ok .next) s1) :
  wpAny (model X.prog X.w) X.A (eval iter X.env) (λx O3=>wpAny (model X.prog X.w) X.A (pyIter x) (λit O9=>wpAny (model X.prog X.w) X.A (newList []) (λacc Y2 =>
   wpAny (model X.prog X.w) X.A (newFunctionEnv scope X.env.globals (zCI X.env scope.names []) [] X.env.qual none .none (some X.env)) (λcenv Z4 =>
    codeAny (model X.prog X.w) X.A (.compStart (.ListComp elt [⟨tg,iter,ifs,0⟩] scope pos) 0 it acc { cenv with scope:=relabel scope X.env }) (RR acc cenv.locals) Z4) X.xe Y2) X.xe O9) X.xe O3) X.xe s:=by
 obtain⟨wi,hwi,hI⟩:=hi;refine thn (hwi pins s B H (λJ H1=>Same H H1/\∀ (i:Nat) H2,i<=zs.length->Same (hide H1 S) H2->(i=zs.length->J.stop i H2)/\(i < zs.length->J.go i H2/\∀ v H3,J.yld i H2 v H3->H3=H2/\∀ x,zs[i]?=some x->Den X.K (hide H1 S) x v)) I (hI B H S O zs _ ds ez λJ H1 s1 hJ=>⟨s1,hJ⟩)) λv s1 h1=>thn h1 λitv s2 h2=>?_
 obtain⟨it,fp,tn,J,H2,rfl,I2,T,st2,f2,s12,hJ⟩:=h2;refine wpAny_newObj_type (zD1 ?_);have e3:∃ s3:Shared,s3={ s2 with heap:=s2.heap.push { cls:=.type "list",dict:=none,data:=.seq ([]:List Value).toArray } }:=⟨_,rfl⟩;obtain⟨s3,hs3⟩:=e3;rw[<- hs3];have eD:∃ D,D=s2.heap.objs.size:=⟨_,rfl⟩;obtain⟨D,hD⟩:=eD;rw[<- hD];have hC:s3.heap.objs.size=D+1:=by rw[hs3,hD];exact Heap.size_push ..
 have k23:∀ b o,s2.heap.get? b=some o->s3.heap.get? b=some o:=λb o q=>by rw[hs3];exact get?_push_of_some _ q
 have I3:Inv X pins B H2 s3:=by rw[hs3];exact I2.kept (t':=s2.toks) λb o q=>get?_push_of_some _ q
 have oD:s3.heap.get? D=some { cls:=.type "list",data:=.seq ([]:List Value).toArray }:=by rw[hs3,hD];exact get?_push_size _ rfl
 have H2D:H2 D=none:=by rw[hD];exact I2.hok.fresh (le_refl _)
 have fplt:∀ b∈fp,b < D:=λb hb=>by
  obtain⟨o,q,_⟩:=T.obj _ _ st2 b hb;rw[hD];exact lt_size q
 have hfD:∀ b∈D::fp,FpOk X pins H2 b/\∃ o,s3.heap.get? b=some o:=λb hb=>by
  rcases mem_cons.mp hb with rfl | hb
  .exact ⟨I2.fpOk (by rw[hD];exact le_refl _) H2D,_,oD⟩
  .obtain ⟨o,q,_⟩:=T.obj _ _ st2 b hb;exact⟨f2 b hb,o,k23 b o q⟩
 have lenN:(mask none ms B++List.replicate xs.length none).length=(mask noN ms X.N++xs).length:=by
  rw[qj,qj,zA0,zA0,length_replicate,I.len]
 have Ic:=zHl (fp:=D::fp) (N:=mask noN ms X.N++xs) (σc:=mask none ms B++List.replicate xs.length none) I3 hfD cs (λi x v q1 q2 q3=>by
  obtain⟨q2,hi2⟩:=zB6 q2;rcases zBP q2 with ⟨z,_⟩ | ⟨q2,ni⟩
  .cases z
  have hiN:i < (mask noN ms X.N).length:=by rw[zA0] at hi2 ⊢;rw[<- I.len];exact hi2
  rw[getElem?_append_left hiN] at q1;rcases zBP q1 with ⟨_,z⟩ | ⟨q1,_⟩
  .exact absurd z ni
  refine⟨?_,i,q1,q2⟩;have no:ownB scope x=false:=by
   cases b:ownB scope x with
   | false=>rfl
   | true=>exact absurd (hm i x q1 b) ni
  unfold Vis relS at q3;rw[zC0] at q3;unfold ownB at no;cases w:scope.names.lookup x with
  | none=>rw[w] at q3;simp at q3
  | some k =>
   rw[w] at no;cases k with
   | free=>rfl
   | «local»=>cases no
   | cell=>cases no
   | _=>rw[w] at q3;simp at q3) lenN
 have st4:tn 0 (pushCells (s3.heap.push { cls:=.type "dict",data:=.dict #[] }) scope.names):=T.keep 0 _ _ st2 λb hb o q=>zAr _ _ b o (get?_push_of_some _ (k23 b o q))
 have loop:codeAny (model X.prog X.w) X.A (.compLoop (.ListComp elt [⟨tg,iter,ifs,0⟩] scope pos) 0 (.ref it) (.ref D) (zBn scope X s3)) (RR (.ref D) s3.heap.objs.size) { s3 with heap:=pushCells (s3.heap.push { cls:=.type "dict",data:=.dict #[] }) scope.names }:=by
  refine zDd (λn s'=>∃ (i:Nat) (O1:St) (H':Hp) (O2:Dst) (done more:List DL.D) (vs:List V) (its:List Value),Inv (zAW X (mask noN ms X.N++xs) scope s3 H2 (D::fp)) [] O1 H' s'/\tn i s'.heap/\(∀ b∈D::fp,H' b=none)/\s'.heap.PlainList D its.toArray/\Vals vs its/\DS X.K H' S O1 O2 /\
   Same H2 H'/\DenL X.K (hide H' S) done vs/\zGM t c e (zs.drop i) O2=some more/\done++more=ys/\i<=zs.length/\done.length<=i/\n=zs.length - i) ?_ zs.length
   ⟨0,_,H2,_,[],ys,[],[],Ic,st4,λb hb=>(hfD b hb).1.1,⟨_,zAr _ _ D _ (get?_push_of_some _ oD)⟩,.nil,(ds.mono s12).ext ms xs.length,Same.refl _,.nil,by rw[List.drop_zero];exact ey,rfl,zero_le _,le_refl _,by simp⟩
  rintro n s' ⟨i,O1,H',O2,done,more,vs,its,Ic',st',fr',⟨nD,pl⟩,rv,ds',sm,dn,ec,ed,hi',hl',rfl⟩;have lenv:its.length<=zs.length:=by rw[<- rv.length,<- dn.length];exact le_trans hl' hi'
  obtain⟨j1,j2⟩:=hJ i H' hi' (zAt.trans sm);have fpc:∀ {b:Addr} {pn:List (Addr×Obj)} {Hx:Hp},b∈D::fp->Hx b=none->(∀ p∈pn,p.1≠b)->FpOk (zAW X (mask noN ms X.N++xs) scope s3 H2 (D::fp)) pn Hx b:=λ{b pn Hx} hb hn hp =>
   ⟨hn,(Ic'.ok.exf b hb).1,Ic'.ok.exfs b hb,.inl hb,(Ic'.ok.exf b hb).2,λp hp'=>hp p (show p∈pn from hp')⟩
  have pinD:∀ {p:Addr×Obj} {h:Heap},p∈zBM [D] h->p.1=D:=λ{p h} hp=>by simpa using (zDy hp).1
  have I0:Inv (zAW X (mask noN ms X.N++xs) scope s3 H2 (D::fp)) ([]++zBM [D] s'.heap) O1 H' s':=Ic'.pinned (fp:=[D]) (λb hb=>by
   have eb:b=D:=by simpa using hb
   subst eb;exact fpc q8 (fr' _ q8) λp hp=>absurd hp (by simp)) λb hb=>by
   have eb:b=D:=by simpa using hb
   subst eb;exact⟨_,pl,λv z=>by cases z⟩
  have fp0:∀ b∈fp,FpOk (zAW X (mask noN ms X.N++xs) scope s3 H2 (D::fp)) ([]++zBM [D] s'.heap) H' b:=λb hb=>fpc (qY _ hb) (fr' b (qY _ hb)) λp hp z=>by
   have q1:=pinD (by simpa using hp);have q2:=fplt b hb;rw[<- z,q1] at q2;exact absurd q2 (lt_irrefl _)
  have memD:(D,_)∈zBM [D] s'.heap:=zBr (by simp) pl;by_cases hlt:i < zs.length
  .obtain ⟨go,yl⟩:=j2 hlt;refine wpAny_mono (T.item (zAW X (mask noN ms X.N++xs) scope s3 H2 (D::fp)) rfl rfl rfl hcalm i ([]++zBM [D] s'.heap) s' O1 H' _ I0 fp0 st' go) (λr s4 zz72=>?_) λ_ _ z=>z
   obtain⟨u,hr,h4⟩:=zz72;subst hr;refine wpAny_mono h4 (λ_ s5 zz73=>?_) λ_ _ z=>z
   obtain⟨x,H5,I5,r5,y5,st5,fr5⟩:=zz73;obtain⟨rfl,hv⟩:=yl x H5 y5;have pl5:=(I5.pin (D,_) (xq _ (xq _ memD))).1;have I5':Inv (zAW X (mask noN ms X.N++xs) scope s3 H2 (D::fp)) ([]++zBM (D::fp) s5.heap) O1 H5 s5:=I5.unpinned.pinned (fp:=D::fp) (λb hb=>fpc hb (fr' b hb) λp hp=>absurd hp (by simp)) λb hb=>by
    rcases mem_cons.mp hb with rfl | hb
    .exact ⟨_,pl5,λv z=>by cases z⟩
    .exact T.obj _ _ st5 b hb
   have there:∀ {Hx:Hp} {sx:Shared} {Bx:St},Inv (zAW X (mask noN ms X.N++xs) scope s3 H2 (D::fp)) ([]++zBM (D::fp) s5.heap) Bx Hx sx->∀ b∈D::fp,(∀ o,s5.heap.get? b=some o->sx.heap.get? b=some o)/\Hx b=none:=λ{Hx sx Bx} Ix b hb=>by
    have q:∃ o,s5.heap.get? b=some o:=by
     rcases mem_cons.mp hb with rfl | hb
     .exact ⟨_,pl5⟩
     .obtain ⟨o,q,_⟩:=T.obj _ _ st5 b hb;exact⟨o,q⟩
    obtain⟨o,q⟩:=q;have w:=Ix.pin (b,o) (xq _ (xq _ (zBr hb q)));exact⟨λo' q'=>by rw[q] at q';cases q';exact w.1,w.2.1⟩
   rw[List.drop_eq_getElem_cons hlt] at ec;obtain⟨O7,e1,ec⟩:=bind_some ec;obtain⟨b,eb,ec⟩:=bind_some ec;obtain⟨g,hg1,hg2⟩:=hg s3 H2 (D::fp);have dx:Den X.K (hide H5 S) zs[i] x:=(hv _ (by simp[hlt])).mono (zAU sm);refine wpAny_mono (hg1 _ s5 O1 H5 x u _ I5' r5 (hg2 X.K rfl zs[i] x O1 H5 S O2 O7 (λB6 H6=>H6=H5/\DS X.K H5 S B6 O7) ds' dx e1 λB6 d6=>⟨rfl,d6⟩)) (λ_ s6 zz74=>?_) λ_ _ z=>z.elim
   obtain⟨B6,H6,I6,q6,ds6⟩:=zz74;subst q6;refine wpAny_mono (hc s3 H2 (D::fp) _ s6 B6 H6 (λb' H7=>b'=b/\Same H6 H7) I6 ⟨S,O7,b,ds6,eb,λH7 s7=>⟨rfl,s7⟩⟩) (λok s7 zz75=>?_) λ_ _ z=>z.elim
   obtain⟨H7,I7,q7,s67⟩:=zz75;subst q7;cases ok with
   | false =>
    rw[if_neg qX] at ec;rw[if_neg qX];exact⟨zs.length - (i+1),by omega,i+1,B6,H7,O7,done,more,vs,its,I7.unpinned,T.keep _ _ _ st5 λb hb o q=>(there I7 b (qY _ hb)).1 o q,λb hb=>(there I7 b hb).2,⟨nD,(there I7 D q8).1 _ pl5⟩,rv,ds6.mono s67,
     sm.trans s67,dn.mono (zAU s67),ec,ed,hlt,Nat.le_succ_of_le hl',rfl⟩
   | true =>
    rw[if_pos rfl] at ec;rw[if_pos rfl];obtain⟨r,er,ec⟩:=bind_some ec;by_cases hr:r.2=.dt
    .rw [if_pos hr] at ec;cases ec
    rw[if_neg hr] at ec;obtain⟨more',em,ec⟩:=bind_some ec;cases ec;refine wpAny_mono (he s3 H2 (D::fp) _ s7 B6 H7 (λv H8=>Same H7 H8/\RV X.K H7 H8 S r v) I7 ⟨S,O7,r,ds6.mono s67,er,λv H8 s8 r8=>⟨s8,r8⟩⟩) (λuv s8 zz76=>?_) λ_ _ z=>z.elim
    obtain⟨v,H8,I8,rv8,s78,r8⟩:=zz76;have pl8:=(there I8 D q8).1 _ pl5;refine wpAny_list_append_plain (hsz:=by rw[xy];exact le_trans lenv (zCe hz)) ⟨nD,pl8⟩ λh9 hl9 hs9=>?_
    have I9:Inv (zAW X (mask noN ms X.N++xs) scope s3 H2 (D::fp)) [] B6 H8 { s8 with heap:=h9 }:=I8.unpinned.turned (it:=D) (t':=s8.toks) (λb o hb q=>hs9.extBut b o hb q) (there I8 D q8).2 (Ic'.ok.exf D q8).1 (.inl q8) (Ic'.ok.exf D q8).2 λp hp=>absurd (show p∈([]:List (Addr×Obj)) from hp) (by simp)
    have hden:=(RV.den (d:=r.1) (k:=r.2) r8 hr);refine⟨zs.length - (i+1),by omega,i+1,B6,H8,O7,done++[r.1],more',vs++[v],its++[uv],I9,T.keep _ _ _ st5 λb hb o q=>hs9.extBut b o (λz=>?_) ((there I8 b (qY _ hb)).1 o q),λb hb=>(there I8 b hb).2,?_,rv.append (.cons rv8 .nil),ds6.mono (s67.trans s78),
     sm.trans (s67.trans s78),(dn.mono (zAU (s67.trans s78))).append (.cons hden .nil),em,by rw[qJ];exact ed,hlt,by rw[qj,length_singleton];omega,rfl⟩
    .have:=fplt b hb;rw[z] at this;exact absurd this (lt_irrefl _)
    .have ea:its.toArray.push uv=(its++[uv]).toArray:=by simp
     rw[<- ea];exact hl9
  .have ei:i=zs.length:=by omega
   subst ei;refine wpAny_mono (T.done (zAW X (mask noN ms X.N++xs) scope s3 H2 (D::fp)) rfl rfl rfl hcalm _ ([]++zBM [D] s'.heap) s' O1 H' _ I0 fp0 st' (j1 rfl)) (λr s4 zz77=>?_) λ_ _ z=>z
   obtain⟨hr,I4⟩:=zz77;subst hr;rw[List.drop_eq_nil_of_le (le_refl _)] at ec;cases ec;rw[append_nil] at ed;subst ed;obtain⟨m,ns,_⟩:=id I4.loc;have eC:(zAW X (mask noN ms X.N++xs) scope s3 H2 (D::fp)).env.locals=D+1:=hC;rw[eC] at ns;have pl4:=I4.pin (D,_) (xq _ (xq _ memD));have HD:H' D=none:=pl4.2.1;have HC:H' (D+1)=none:=by have:=I4.free;rw[eC] at this;exact this
   have CD:D≠D+1:=ne_of_lt (Nat.lt_succ_self D);have neD:∀ {b:Addr} {o:HO},H' b=some o->b≠D:=λ{b o} q z=>by rw[z,HD] at q;cases q
   have ne2:∀ {b:Addr} {o:HO},H2 b=some o->b≠D:=λ{b o} q z=>by rw[z,H2D] at q;cases q
   have lt2:∀ {b:Addr} {o:Obj},s2.heap.get? b=some o->b < D:=λ{b o} q=>by rw[hD];exact lt_size q
   have outex:∀ {b:Addr} {o:Obj},s2.heap.get? b=some o->b∉fp->b∉D::fp:=λ{b o} q hx z=>(mem_cons.mp z).elim (λz=>absurd (lt2 q) (by rw[z];exact lt_irrefl _)) hx
   have neC:∀ {b:Addr} {o:Obj},s2.heap.get? b=some o->b≠D+1:=λ{b o} q=>ne_of_lt (Nat.lt_succ_of_lt (lt2 q))
   have gt2:s2.heap.objs.size<=D+1:=by rw[<- hD];exact Nat.le_succ _
   show RR (.ref D) s3.heap.objs.size (.ok .next) s4;rw[hC];refine fin D (D+1) s4 (upd H' D (.lst vs)) m ns (λh' sb=>?_) ?_ (Nat.ne_of_gt (xQ I2.lt gt2)) (I2.nofs gt2) (le_trans I2.sz gt2) (λx c q z=>?_) (λp hp z=>?_) ?_ ?_
   .refine I2.call' (s':={ s4 with heap:=h' }) (ch:=fp) ?_ ⟨λb o q n hb hx=>sb.extBut b o (neC q) (I4.base.keep b o (k23 b o q) n hb (outex q hx)),λb o q n hb hx=>?_,λb o q n hx=>?_,λb o q hx=>?_,λb ws q=>?_,λb o w q=>?_,λb ps q=>?_⟩ (λb w q=>?_) I4.bare λb hb=>?_
    .have:=I4.os;rw[hs3] at this;exact this
    .obtain ⟨sl,w⟩:=I4.base.slot b o (k23 b o q) n hb (outex q hx);exact⟨sl,sb.extBut b _ (neC q) w⟩
    .rw [zAN (ne_of_lt (lt2 q))];exact I4.base.free b o (k23 b o q) n (outex q hx)
    .obtain ⟨o',w⟩:=I4.base.there b o (k23 b o q) (outex q hx);exact⟨o',sb.extBut b _ (neC q) w⟩
    .rw [zAN (ne2 q)];exact I4.base.tups b ws q
    .rw [zAN (ne2 q)];exact I4.base.frzs b o w q
    .rw [zAN (ne2 q)];exact I4.base.tbls b ps q
    .by_cases z:b=D
     .subst z;rw[zAX] at q;cases q;exact⟨by rw[rv.length];exact le_trans lenv (zCe hz),its,nD,rv,sb.extBut b _ CD pl4.1⟩
     .rw [zAN z] at q;refine(I4.hok b w q).stay (λd v hd w'=>sb.extBut d v (λz'=>?_) w') (λd w'=>by rw[zAN (neD w')];exact w') (λd ws w'=>by rw[zAN (neD w')];exact w') λd ob u w' _=>by rw[zAN (neD w')];exact w'
      rcases hd with hd | hd
      .rw [<- hd,z',HC] at q;cases q
      .rw [z',HC] at hd;cases hd
    .obtain ⟨f0,f1,f2',f3,f4,f5⟩:=f2 b hb;exact⟨f3,f1,f4,f5⟩
   .rw [zAN (Ne.symm CD)];exact HC
   .obtain ⟨v,w⟩:=I2.cell x c q;have:=w.lt;rw[z,<- hD] at this;exact absurd (Nat.lt_trans this (Nat.lt_succ_self D)) (lt_irrefl _)
   .have:=lt_size (I2.pin p hp).1;rw[z,<- hD] at this;exact absurd (Nat.lt_trans this (Nat.lt_succ_self D)) (lt_irrefl _)
   .exact λb o q=>by
     have w:=sm b o (s12 b o q);rw[zAN (neD w)];exact w
   .refine ⟨D,vs,done,rfl,rfl,λz=>?_,?_,zAX,dn.mono λb o q=>?_⟩
    .obtain ⟨ws,w,_⟩:=(ds.mono s12).sok D z;rw[H2D] at w;cases w
    .exact s12.free H2D
    .obtain ⟨q1,q2⟩:=zA9 q;rw[zAT λz=>(mem_cons.mp z).elim (neD q2) q1,zAN (neD q2)];exact q2
 exact codeAny_compStart_list loop (T.self X.A 0 _ _ _ st4 loop)
theorem zC3 (cs:zCv sc scope):∀ x∈scope.names,x.2=.local->scope.names.lookup x.1=some .local:=λx hx e=>by
 have:=zCz cs.nd hx
 simp_all
theorem zJ6 (hcalm:X.calm=true)(hi:GI X tg iter f)(hs:∀ x,foldedSetIterable iter X.env x=pure x)(cs:zCv X.env.scope scope)
  (hm:∀ (i:Nat) x,X.N[i]?=some x->ownB scope x=true->i∈ms)
  (hg:∀ s H fp,GG (zAW X (mask noN ms X.N++xs) scope s H fp) tg t)
  (hc:∀ s H fp,GCs (zAW X (mask noN ms X.N++xs) scope s H fp) ifs c) (he:∀ s H fp,GE (zAW X (mask noN ms X.N++xs) scope s H fp) elt e) :
  GE X (.ListComp elt [⟨tg,iter,ifs,0⟩] scope pos) (zHE ms xs.length f t c e):=by
 intro pins s B H Q I ⟨S,O,z,ds,ez,cc⟩;obtain⟨zs,e1,ez⟩:=bind_some ez;by_cases hz:zs.length<=10000
 .rw [if_pos hz] at ez;obtain⟨ys,e2,ez⟩:=bind_some ez;cases ez;refine wpAny_comprehension_free (use:=none) rfl hs (zBo (zEO I cs)) cs.kind (zC3 cs) ?_;refine zGJ hcalm hi cs hm hg hc he I ds e1 hz e2 λD C s1 H'' m ns hI _ _ _ _ _ _ sm rv=>?_
  exact⟨m,ns,λh' sb=>⟨.ref D,H'',hI h' sb,rfl,cc _ H'' sm rv⟩⟩
 .simp_all
theorem zOn (hcalm:X.calm=true)(hi:GI X tg iter f)(hs:∀ x,foldedSetIterable iter X.env x=pure x)(cs:zCv X.env.scope scope)
  (hm:∀ (i:Nat) x,X.N[i]?=some x->ownB scope x=true->i∈ms)
  (hg:∀ s H fp,GG (zAW X (mask noN ms X.N++xs) scope s H fp) tg t)
  (hc:∀ s H fp,GCs (zAW X (mask noN ms X.N++xs) scope s H fp) ifs c) (he:∀ s H fp,GE (zAW X (mask noN ms X.N++xs) scope s H fp) elt e)
  (hN:X.N.Nodup) (hy:X.N[i]?=some y) (hl:Loc X.env.scope y) (hf:X.fn y=true\/X.env.scope.names.lookup y=some .local) :
  GS X (.Assign [.Name y py] (.ListComp elt [⟨tg,iter,ifs,0⟩] scope pos) spos) (setD i (zHE ms xs.length f t c e)):=by
 have hge:GE X (.ListComp elt [⟨tg,iter,ifs,0⟩] scope pos) (zHE ms xs.length f t c e):=zJ6 hcalm hi hs cs hm hg hc he;have hb:∃ b,swapsWith (.ListComp elt [⟨tg,iter,ifs,0⟩] scope pos) (some (.Name y py)) spos.line X.env=pure b:=⟨_,rfl⟩;obtain⟨b,hb⟩:=hb;cases b with
 | false=>exact zNM hN hy hl hge hb hf
 | true =>
  intro H0 pins s B H E I ⟨S,O,o,ds,h0,eo,p⟩;obtain⟨r,er,eo⟩:=bind_some eo;obtain⟨zs,e1,ez⟩:=bind_some er;by_cases hz:zs.length<=10000
  .rw [if_pos hz] at ez;obtain⟨ys,e2,ez⟩:=bind_some ez;cases ez;rw[exec_Assign_Name_used _ _ _ _ hb];refine qQ (wpAny_standAt (qQ ?_));refine qQ (wpAny_mono (wpAny_comprehension_free (use:=some (assign (.Name y py) X.env)) (Q:=λ_ s'=>SP X pins E .next s') rfl hs (zBo (zEO I cs)) cs.kind (zC3 cs) ?_) (λ_ s' hq=>q9 (q9 hq)) λ_ _ e=>e);refine zGJ (RR:=λacc C=>compPost (model X.prog X.w) X.A X.xe (some (assign (.Name y py) X.env)) (λ_ s'=>SP X pins E .next s') acc C) hcalm hi cs hm hg hc he I ds e1 hz e2 λD C s1 H'' m ns hI hC1 hC2 hC3 hC4 hC5 hC6 sm rv=>?_
   have I1:Inv X pins B H'' s1:=hI s1.heap (Heap.SameBut.refl ..);obtain⟨oC,es,ep,ho,hd,w3⟩:=id ns;have I2:Inv X (pins++[(C,oC)]) B H'' s1:=I1.pins_of λq hq=>(mem_append.mp hq).elim (λz=>I1.pin q (xq _ z)) λz=>by
    have e:q=(C,oC):=by simpa using z
    subst e;exact⟨ho,hC1,hC2,hC3,λv z=>by rw[hd] at z;cases z⟩
   show wpAny (model X.prog X.w) X.A (assign (.Name y py) X.env (.ref D)) _ X.xe s1;refine thn (zFN hN hy hl hf _ s1 B H'' (.ref D) (.ref D) (λB6 H6=>H6=H''/\B6=B.set i (some (.ref D))) I2 rfl ⟨rfl,rfl⟩) λ_ s6 zz78=>?_
   obtain⟨B6,H6,I6,q1,q2⟩:=zz78;subst q1 q2;have pc:=I6.pin (C,oC) (xq _ (xq _ (by simp)));refine⟨m,⟨oC,es,ep,pc.1,hd,w3⟩,λh' sb=>?_⟩;refine⟨_,H6,I6.unpinned.turned (it:=C) (t':=s6.toks) (λb o hb q=>sb.extBut b o hb q) hC1 (Ne.symm (Ne.symm hC2)) (.inr hC4) hC5 hC6,?_⟩;exact zEf ds h0 sm rv eo p
  .rw [if_neg hz] at ez;cases ez
end
section
variable {X:Cx}{tg:Expr}
def iAny (K:W.Frag)(tl:TE):TI:=λB H R=>tl B H λx H1=>∃ a,x=.ref a/\(((∃ xs,SqL K H1 a xs)/\R (Itl K a) H1)\/((∃ xs,SqT K H1 a xs)/\R (Itt K a) H1))
theorem zM0 (hl:PE X l tl):PI X tg l (iAny X.K tl):=by
 intro pins s B H R I h;refine thn (hl pins s B H _ I h) λv s1 zz79=>?_
 obtain⟨x,H1,I1,r1,q1⟩:=zz79;obtain⟨a,e,q⟩:=q1;subst e;cases r1;rcases q with ⟨⟨xs,hq⟩,q⟩ | ⟨⟨xs,hq⟩,q⟩
 .obtain ⟨its,rv,p,hz⟩:=I1.list hq;refine wpAny_pyIter_list p.isList ?_;refine⟨s1.heap.objs.size,[s1.heap.objs.size],_,_,H1,rfl,I1.kept λb o e=>get?_push_of_some _ e,zIq a _,⟨_,get?_push_size _ rfl,rfl,rfl⟩,λb hb=>?_,q⟩;have e:b=s1.heap.objs.size:=by simpa using hb
  subst e;exact I1.fpOk (le_refl _) (I1.hok.fresh (le_refl _))
 .obtain ⟨its,rv,p,hz⟩:=I1.tuple hq;refine wpAny_pyIter_tuple p ?_;refine⟨s1.heap.objs.size,[s1.heap.objs.size],_,_,H1,rfl,I1.kept λb o e=>get?_push_of_some _ e,zIE a _,⟨_,get?_push_size _ rfl,rfl,rfl⟩,λb hb=>?_,q⟩;have e:b=s1.heap.objs.size:=by simpa using hb
  subst e;exact I1.fpOk (le_refl _) (I1.hok.fresh (le_refl _))
noncomputable def zEA (f:Dst->Option R):Dst->Option (List D):=λO=>match f O with
 | some (.lst ds,.cl)=>some ds
 | some (.lst ds,.fr)=>some ds
 | some (.tup ds,.cl)=>some ds
 | _=>none
theorem zRS (h:GE X iter f):GI X tg iter (zEA f):=by
 refine⟨_,zM0 h,λB H S O xs Rr ds e q=>?_⟩;have fin:∀ {k:Kd},k≠.dt->f O=some (.lst xs,k)->iAny X.K (gT X.K f) B H Rr:=λ{k} hk ef=>by
  refine⟨S,O,_,ds,ef,λv H1 s1 r1=>?_⟩;have d1:=RV.den (d:=.lst xs) (k:=k) r1 hk;rw[Den] at d1;obtain⟨a,vs,rfl,w1,w2⟩:=d1;refine⟨a,rfl,.inl ⟨⟨vs,zAt.seq w1⟩,q _ H1 s1 λi H2 hi k2=>?_⟩⟩;have w3:=k2.seq w1;refine⟨λei=>⟨vs,w3,by rw[<- w2.length,ei];exact le_refl _⟩,λhl=>?_⟩;have hlv:i < vs.length:=by rw[<- w2.length];exact hl
  refine⟨⟨vs,vs[i],w3,by simp[hlv]⟩,λv H3 y=>⟨y.1,λx ex=>?_⟩⟩;have yv:=y.2 vs w3;obtain⟨u,q1,q2⟩:=w2.get ex;rw[yv] at q1;cases q1;exact q2
 unfold zEA at e;split at e
 .rename_i q1;cases e;exact fin (by decide) q1
 .rename_i q1;cases e;exact fin (by decide) q1
 .rename_i q1;cases e;refine⟨S,O,_,ds,q1,λv H1 s1 r1=>?_⟩;have d1:Den X.K (hide H1 S) (.tup xs) v:=r1;rw[Den] at d1;obtain⟨a,vs,rfl,w1,w2⟩:=d1;refine⟨a,rfl,.inr ⟨⟨vs,Same.tupS zAt w1⟩,q _ H1 s1 λi H2 hi k2=>?_⟩⟩;have w3:=Same.tupS k2 w1;refine⟨λei=>⟨vs,w3,by rw[<- w2.length,ei];exact le_refl _⟩,λhl=>?_⟩;have hlv:i < vs.length:=by rw[<- w2.length];exact hl
  refine⟨⟨vs,vs[i],w3,by simp[hlv]⟩,λv H3 y=>⟨y.1,λx ex=>?_⟩⟩;have yv:=y.2 vs w3;obtain⟨u,q1,q2⟩:=w2.get ex;rw[yv] at q1;cases q1;exact q2
 .cases e
noncomputable def Itr3 (lo c:Int)(n:Nat):It:=⟨λi _=>i < n,λi H x H'=>H'=H/\x=.int (lo+i*c),λi _=>n<=i⟩
theorem zGY {P:Program}{w:World}{K:W.Frag}{tg:Expr}(it:Addr)(lo c:Int)(n:Nat):Turn P w K tg (Itr3 lo c n) [it] it (λi h=>IsRangeIter h it (lo+(i:Nat)*c) ((n:Int) - (i:Nat)) c) where
 mem:=by simp
 obj:=λi h st b hb=>by
  simp_all
 keep:=λi h h' st k=>k it (by simp) _ st
 item:=by
  intro X hP hw hK hc i pins s B H E I hf st hg;subst hP hw hK;obtain⟨f0,f1,f2,f3,f4,f5⟩:=hf it (by simp);have W:=Walks.range (prog:=X.prog) (w:=X.w) (I.ok.hd hc) it lo c n;refine W.item i s _ _ hg st λv h' tk hv st' kk=>?_
  obtain⟨t,rfl⟩:=hv;have I1:Inv X pins B H { s with heap:=h',toks:=tk }:=I.turned (λb o hb e=>kk b o (by simpa using hb) e) f0 f1 f3 f4 f5;exact⟨_,rfl,zL4 (s:={ s with heap:=h',toks:=tk }) (n := "range_iterator") st' rfl rfl (by decide) ⟨.int (lo+i*c),H,I1,⟨t,rfl⟩,⟨rfl,rfl⟩,st',λb hb=>(hf b hb).1⟩⟩
 done:=by
  intro X hP hw hK hc i pins s B H E I hf st hg;subst hP hw hK;obtain⟨f0,f1,f2,f3,f4,f5⟩:=hf it (by simp);exact wpAny_pyNext_range_end (I.ok.hd hc) st (by have:n<=i:=hg;omega) λh' eb=>⟨rfl,I.turned (t':=s.toks) (λb o hb e=>eb b o hb e) f0 f1 f3 f4 f5⟩
 self:=λ_ _ _ _ _ st h=>wpAny_pyIter_rangeiter st h
theorem zGd (a b c:Int)(hc:c≠0):0<=Builtin.Range.rangeSize a b c:=by
 unfold Builtin.Range.rangeSize;split
 .split
  .have:=Int.ediv_nonneg (a:=b - a - 1) (b:=c) (by omega) (by omega);omega
  .simp
 .split
  .have:=Int.ediv_nonneg (a:=a - b - 1) (b:=-c) (by omega) (by omega);omega
  .simp
def ROk (a b c:Int):Prop:=c≠0/\c.natAbs < 1073741824/\Builtin.Range.small a b c=true
noncomputable instance (a b c:Int):Decidable (ROk a b c):=by unfold ROk;exact inferInstance
theorem zI5 {R:It->Hp->Prop}{lo:Int}(I:Inv X pins B H s)(ok:ROk lo hi c)
  (q:R (Itr3 lo c (Builtin.Range.rangeSize lo hi c).toNat) H):wpAny (model X.prog X.w) X.A (pyIter (.ref s.heap.objs.size)) (PIE X pins B tg R) E { s with heap:=s.heap.push { cls:=.type "range",data:=.fields #[.int lo t,.int hi u,.int c v] },toks:=tk }:=by
 refine wpAny_pyIter_range (IsRange.new ..) ok.2.2 ?_;have I1:Inv X pins B H { s with heap:=s.heap.push { cls:=.type "range",data:=.fields #[.int lo t,.int hi u,.int c v] },toks:=tk }:=I.kept λb o e=>get?_push_of_some _ e
 refine⟨(s.heap.push { cls:=.type "range",data:=.fields #[.int lo t,.int hi u,.int c v] }).objs.size,[(s.heap.push { cls:=.type "range",data:=.fields #[.int lo t,.int hi u,.int c v] }).objs.size],_,_,H,rfl,
  I1.kept λb o e=>get?_push_of_some _ e,zGY _ lo c (Builtin.Range.rangeSize lo hi c).toNat,?_,λb hb=>?_,q⟩
 .have e1:lo+((0:Nat):Int)*c=lo:=by simp
  have e2:(((Builtin.Range.rangeSize lo hi c).toNat:Nat):Int) - ((0:Nat):Int)=Builtin.Range.rangeSize lo hi c:=by have:=zGd lo hi c ok.1;omega
  rw[e1,e2];exact get?_push_size _ rfl
 .have e:b=(s.heap.push { cls:=.type "range",data:=.fields #[.int lo t,.int hi u,.int c v] }).objs.size:=by simpa using hb
  subst e;exact I1.fpOk (le_refl _) (I1.hok.fresh (le_refl _))
def zSn (ta:TA):TI:=λB H R=>ta B H λvs H1=>∃ i j c:Int,vs=[.int i,.int j,.int c]/\ROk i j c/\R (Itr3 i c (Builtin.Range.rangeSize i j c).toNat) H1
theorem zJB (hg:Gl X "range")(hm:X.mg "range"=none)(ha:PA X [a,b,c] ta)(hs:starEach [a,b,c] X.env=[(false,eval a X.env),(false,eval b X.env),(false,eval c X.env)])(hs2:starEach [b,c] X.env=[(false,eval b X.env),(false,eval c X.env)]) :
  PI X tg (.Call (.Name "range" p) [a,b,c] [] pos) (zSn ta):=by
 intro pins s B H R I h;refine Call_ (zC7 I hg hm boot_range (PyProof.Rows.callWith_type1 (thn (ha pos pins s B H _ I h) λus s1 zz80=>?_) (by rw[hs,hs2]) (by rw[hs2];rfl)));obtain⟨vs,H1,I1,r1,q1⟩:=zz80;obtain⟨i,j,k,e,ok,q⟩:=q1;subst e;cases r1 with
 | cons r rr =>
  cases rr with
  | cons r' rr =>
   cases rr with
   | cons r'' rr =>
    cases rr;obtain⟨t,rfl⟩:=r;obtain⟨t',rfl⟩:=r';obtain⟨t'',rfl⟩:=r'';exact call_range_3 ok.1 (zI5 I1 ok q) (.inl (PyProof.noPylong_small ok.2.1))
noncomputable def rngS (lo c:Int)(n:Nat):List D:=(List.range n).map λ(k:Nat)=>D.int (lo+k*c)
theorem zIH {K:W.Frag}{lo:Int}(i:Nat)(H2:Hp)(hi:i<=(rngS lo c n).length):(i=(rngS lo c n).length->(Itr3 lo c n).stop i H2)/\(i < (rngS lo c n).length->(Itr3 lo c n).go i H2/\∀ v H3,(Itr3 lo c n).yld i H2 v H3->H3=H2/\∀ x,(rngS lo c n)[i]?=some x->Den K (hide H1 S) x v):=by
 have hl:(rngS lo c n).length=n:=by unfold rngS;simp
 refine⟨λe=>by rw[hl] at e;exact Nat.le_of_eq e.symm,λh=>⟨by rw[hl] at h;exact h,λv H3 y=>⟨y.1,λx ex=>?_⟩⟩⟩;rw[hl] at h;have:(rngS lo c n)[i]?=some (D.int (lo+i*c)):=by unfold rngS;simp[h]
 rw[this] at ex;cases ex;exact y.2
def zGg (f g h:Dst->Option R):Dst->Option (List D):=λO=>match f O,g O,h O with
 | some (.int i,_),some (.int j,_),some (.int c,_)=>if ROk i j c then some (rngS i c (Builtin.Range.rangeSize i j c).toNat) else none
 | _,_,_=>none
theorem zJ2 (hg:Gl X "range")(hm:X.mg "range"=none)(ha:GE X a f)(hb:GE X b g)(hc:GE X c h)(hs:starEach [a,b,c] X.env=(false,eval a X.env)::starEach [b,c] X.env)(hs2:starEach [b,c] X.env=(false,eval b X.env)::starEach [c] X.env)(hs3:starEach [c] X.env=[(false,eval c X.env)]) :
  GI X tg (.Call (.Name "range" p) [a,b,c] [] pos) (zGg f g h):=by
 refine⟨_,zJB hg hm (zAa ha (zAa hb (zAa hc zA2 hs3) hs2) hs) (by rw[hs,hs2,hs3]) (by rw[hs2,hs3]),λB H S O xs Rr ds e q=>?_⟩;unfold zGg at e;split at e
 .rename_i i k j k2 c' k3 ei ej ec;by_cases hj:ROk i j c'
  .rw [if_pos hj] at e;cases e;exact⟨S,O,_,ds,ei,λv H1 s1 r1=>⟨S,O,_,ds.mono s1,ej,λu H2 s2 r2=>⟨S,O,_,ds.mono (s1.trans s2),ec,λu3 H3 s3 r3=>⟨i,j,c',by rw[r1.rd.int,r2.rd.int,r3.rd.int],hj,q _ H3 (s1.trans (s2.trans s3)) λi H2 hi _=>zIH i H2 hi⟩⟩⟩⟩
  .simp_all
 .cases e
end
end DL
end
section
namespace DL
open PySem
abbrev zCt (h:Heap) (z TI TO:Addr) (f0 f1:Value):Prop :=
 h.get? z=some { cls:=.type "zip",dict:=none,data:=.fields #[f0,f1,.bool false,.ref TI,.ref TO],slots:=#[] }
section
variable {prog:Program}{w:World}{A:Around}{E:Value->Shared->Prop}{s:Shared}
theorem zK5 (h:Q (s.heap.get? a) s):wpAny M A (loadIfAlive a) Q E s:=λJ p B5=>by
 assumption
theorem zEj {T:Addr}(hz:zCt s.heap z TI TO (rawInt T) (.bool f1))(hT:s.heap.get? T=some oT)
  (hQ:∀ h' f1',zCt h' z TI TO (rawInt T) (.bool f1')->Heap.SameBut z s.heap h'->Q false { s with heap:=h' }) :
  wpAny (model prog w) A (Builtin.SmallTypes.ownedTupleIsFree (.ref z)) Q E s:=by
 unfold Builtin.SmallTypes.ownedTupleIsFree;refine qQ (wpAny_field hz rfl (x:=rawInt T) rfl ?_);refine qQ (zK5 ?_);rw[toNat_natCast,hT];refine qQ (wpAny_field hz rfl (x:=.bool f1) rfl ?_);cases f1 with
 | true =>
  have e:((Value.bool true) != .bool true)=false:=by simp
  rw[e];simp only[Bool.false_eq_true,if_false];exact q9 (hQ s.heap true hz (Heap.SameBut.refl ..))
 | false =>
  have e:((Value.bool false) != .bool true)=true:=by simp
  rw[e];simp only[if_true];refine qQ (wpAny_setField_rec hz (by simp) λO8 hz1 Y3=>?_);exact q9 (hQ O8 true hz1 Y3)
theorem zE6 {T:Addr}{Q:Value->Shared->Prop}(D:ZipApart z TI TO i1 i2 l1 l2)
  (hz:zCt s.heap z TI TO (rawInt T) (.bool f1)) (hT:s.heap.get? T=some oT) (hTI:IsPair s.heap TI (.ref i1) (.ref i2))
  (h1:s.heap.IsListIter i1 l1 k1) (h2:s.heap.IsListIter i2 l2 k2) (hl1:s.heap.IsList l1 xs) (hl2:s.heap.IsList l2 ys) (hx:xs[k1]?=some x) (hy:ys[k2]?=some y)
  (hQ:∀ h' f1',zCt h' z TI TO (rawInt T) (.bool f1')->h'.IsListIter i1 l1 (k1+1)->h'.IsListIter i2 l2 (k2+1)->IsPair h' s.heap.objs.size x y->h'.objs.size=s.heap.objs.size+1 ->
   (∀ c o,c≠z->c≠i1->c≠i2->s.heap.get? c=some o->h'.get? c=some o)->Q (.ref s.heap.objs.size) { s with heap:=h' }) :
  wpAny (model prog w) A (Builtin.«zip.__next__» ⟨[.ref z],[]⟩) (λfin s'=>∃ v,fin=.done (.ret v)/\Q v s') E s:=by
 show wpAny _ _ (field (.ref z) 2>>=_) _ _ _;refine qQ (wpAny_field hz rfl (x:=.bool false) rfl ?_);show wpAny _ _ (field (.ref z) 3>>=_) _ _ _;refine qQ (wpAny_field hz rfl (x:=.ref TI) rfl ?_);refine qQ (wpAny_seqItems hTI rfl ?_);show wpAny _ _ (Builtin.SmallTypes.ownedTupleIsFree (.ref z)>>=_) _ _ _;refine qQ (zEj hz hT λO8 f1' hz1 Y3=>?_);simp only[Bool.false_eq_true,if_false];refine qQ ?_;simp only[<- Array.forIn_toList,forIn_cons,List.forIn_nil];refine qQ (qQ (wpAny_holding ?_));show wpAny _ _ (Builtin.SmallTypes.nextOf (.ref i1)>>=_) _ _ _;refine qQ (wpAny_nextOf_list_item (h1.extBut Y3.extBut D.i1z) (hl1.extBut Y3.extBut D.l1z) hx λY4 U9 Y8=>q9 ?_);refine q9 ?_;refine qQ (qQ (wpAny_holding ?_));show wpAny _ _ (Builtin.SmallTypes.nextOf (.ref i2)>>=_) _ _ _;refine qQ (wpAny_nextOf_list_item ((h2.extBut Y3.extBut D.i2z).extBut Y8.extBut D.i12.symm) ((hl2.extBut Y3.extBut D.l2z).extBut Y8.extBut D.l2i1) hy λY5 h23 Z6=>q9 ?_);refine q9 (q9 ?_);refine qQ (wpAny_newTuple ?_ (show 2<=sizeLine by decide));have hsz:Y5.objs.size=s.heap.objs.size:=by rw[Z6.1,Y8.1,Y3.1]
 have hz3:zCt Y5 z TI TO (rawInt T) (.bool f1'):=Z6.extBut _ _ D.i2z.symm (Y8.extBut _ _ D.i1z.symm hz1);refine q9 ⟨_,rfl,?_⟩;show Q (.ref Y5.objs.size) _;rw[hsz];refine hQ _ f1' (get?_push_of_some _ hz3) ((U9.extBut Z6.extBut D.i12).at λo e=>get?_push_of_some _ e) (h23.at λo e=>get?_push_of_some _ e) ?_ (by rw[Heap.size_push,hsz]) λc o c1 c2 c3 e=>get?_push_of_some _ (Z6.extBut _ _ c3 (Y8.extBut _ _ c2 (Y3.extBut _ _ c1 e)))
 rw[<- hsz];exact get?_push_size _ rfl
theorem zE5 {T:Addr}{k2:Nat}{ys:Array Value}(hh:A.handled=none)(D:ZipApart z TI TO i1 i2 l1 l2)
  (hz:zCt s.heap z TI TO (rawInt T) (.bool f1)) (hT:s.heap.get? T=some oT) (hTI:IsPair s.heap TI (.ref i1) (.ref i2))
  (h1:s.heap.IsListIter i1 l1 k1) (hl1:s.heap.IsList l1 xs) (hend:xs[k1]?=none)
  (hE:∀ h' e,(∀ c o,c≠z->c≠i1->s.heap.get? c=some o->h'.get? c=some o)->(∃ o,h'.get? e=some o/\o.cls=.type "StopIteration")->E (.ref e) { s with heap:=h' }) :
  wpAny (model prog w) A (Builtin.«zip.__next__» ⟨[.ref z],[]⟩) Q E s:=by
 show wpAny _ _ (field (.ref z) 2>>=_) _ _ _;refine qQ (wpAny_field hz rfl (x:=.bool false) rfl ?_);show wpAny _ _ (field (.ref z) 3>>=_) _ _ _;refine qQ (wpAny_field hz rfl (x:=.ref TI) rfl ?_);refine qQ (wpAny_seqItems hTI rfl ?_);show wpAny _ _ (Builtin.SmallTypes.ownedTupleIsFree (.ref z)>>=_) _ _ _;refine qQ (zEj hz hT λO8 f1' hz1 Y3=>?_);simp only[Bool.false_eq_true,if_false];refine qQ ?_;simp only[<- Array.forIn_toList,forIn_cons,List.forIn_nil];refine qQ (qQ (wpAny_holding ?_));show wpAny _ _ (Builtin.SmallTypes.nextOf (.ref i1)>>=_) _ _ _;refine qQ (wpAny_nextOf_list_end hh (h1.extBut Y3.extBut D.i1z) (hl1.extBut Y3.extBut D.l1z) hend λY4 e Y8 he=>?_);exact hE Y4 e (λc o c1 c3 x=>Y8 _ _ c3 (Y3.extBut _ _ c1 x)) he
theorem zJW {T:Addr}(D:ZipApart z TI TO i1 i2 l1 l2)
  (hz:zCt s.heap z TI TO (rawInt T) (.bool f1)) (hT:s.heap.get? T=some oT) (hTI:IsPair s.heap TI (.ref i1) (.ref i2))
  (h1:s.heap.IsListIter i1 l1 k1) (h2:s.heap.IsListIter i2 l2 k2) (hl1:s.heap.IsList l1 xs) (hl2:s.heap.IsList l2 ys) (hx:xs[k1]?=some x) (hy:ys[k2]?=some y)
  (hQ:∀ h' f1',zCt h' z TI TO (rawInt T) (.bool f1')->h'.IsListIter i1 l1 (k1+1)->h'.IsListIter i2 l2 (k2+1)->IsPair h' s.heap.objs.size x y->h'.objs.size=s.heap.objs.size+1 ->
   (∀ c o,c≠z->c≠i1->c≠i2->s.heap.get? c=some o->h'.get? c=some o)->Q (some (.ref s.heap.objs.size)) { s with heap:=h' }) :
  wpAny (model prog w) A (pyNext (.ref z)) Q E s:=by
 have hTy:s.TypeIs (.ref z) "zip":=⟨_,hz,rfl⟩;exact qQ (wpAny_attempt (wpAny_callSpecial?_slot hTy F.slot_zip_next
  (wpAny_call_entry F.slot_zip_next hTy F.entry_zip_next
   (zE6 D hz hT hTI h1 h2 hl1 hl2 hx hy λh' f' a1 a3 a4 a5 a6 a7=>q9 (hQ h' f' a1 a3 a4 a5 a6 a7)) (F.args_zip_next_1 _))))
theorem zJV {T:Addr}{k2:Nat}{ys:Array Value}(hh:A.handled=none)(D:ZipApart z TI TO i1 i2 l1 l2)
  (hz:zCt s.heap z TI TO (rawInt T) (.bool f1)) (hT:s.heap.get? T=some oT) (hTI:IsPair s.heap TI (.ref i1) (.ref i2))
  (h1:s.heap.IsListIter i1 l1 k1) (hl1:s.heap.IsList l1 xs) (hend:xs[k1]?=none)
  (hQ:∀ h',(∀ c o,c≠z->c≠i1->s.heap.get? c=some o->h'.get? c=some o)->Q none { s with heap:=h' }):wpAny (model prog w) A (pyNext (.ref z)) Q E s:=by
 have hTy:s.TypeIs (.ref z) "zip":=⟨_,hz,rfl⟩;refine qQ (wpAny_attempt (wpAny_callSpecial?_slot hTy F.slot_zip_next
  (wpAny_call_entry F.slot_zip_next hTy F.entry_zip_next (zE5 (k2:=k2) (ys:=ys) hh D hz hT hTI h1 hl1 hend λh' e hk he=>?_) (F.args_zip_next_1 _))))
 obtain⟨o,ho,hc⟩:=he;refine qQ (wpAny_isInstance (b:=true) ⟨o,ho,hc⟩ isSubtype_stop ?_);exact q9 (hQ _ hk)
end
theorem zIB:typeLookup (.type "zip") "__len__"=pure none:=by rw[typeLookup_type];kernel_rfl
theorem zGX:typeLookup (.type "zip") "__length_hint__"=pure none:=by rw[typeLookup_type];kernel_rfl
noncomputable def zCJ (S n:Nat):Array Value:=((List.range n).map λk=>Value.ref (S+1+k)).toArray
theorem zFm (S n:Nat):(zCJ S n).push (.ref (S+1+n))=zCJ S (n+1):=by
 unfold zCJ;rw[range_succ];simp
theorem zDa (S n:Nat):(zCJ S n).size=n:=by unfold zCJ;simp
structure ZJ (s:Shared)(S z TI TO i1 i2 l1 l2:Nat)(xs ys:Array Value)(i:Nat)(s':Shared):Prop where
 same:∃ h',s'={ s with heap:=h' }
 size:s'.heap.objs.size=S+1+i
 lst:∃ c,s'.heap.get? S=some { cls:=.type "list",dict:=none,data:=.seq (zCJ S i) c,slots:=#[] }
 zip:(i=0/\IsZip s'.heap z TI TO .none)\/(0 < i/\∃ f1,zCt s'.heap z TI TO (rawInt (S+1:Nat)) (.bool f1))
 ti:IsPair s'.heap TI (.ref i1) (.ref i2)
 tO:∃ a b,IsPair s'.heap TO a b
 it1:s'.heap.IsListIter i1 l1 i
 it2:s'.heap.IsListIter i2 l2 i
 ls1:s'.heap.IsList l1 xs
 ls2:s'.heap.IsList l2 ys
 tup:∀ k x y,k < i->xs[k]?=some x->ys[k]?=some y->IsPair s'.heap (S+1+k) x y
 keep:∀ (c:Nat) o,c≠z->c≠TO->c≠i1->c≠i2->s.heap.get? c=some o->s'.heap.get? c=some o
structure ZEnd (s:Shared)(S z TO i1 i2:Nat)(xs ys:Array Value)(s':Shared):Prop where
 same:∃ h',s'={ s with heap:=h' }
 lst:∃ c,s'.heap.get? S=some { cls:=.type "list",dict:=none,data:=.seq (zCJ S xs.size) c,slots:=#[] }
 tup:∀ k x y,xs[k]?=some x->ys[k]?=some y->IsPair s'.heap (S+1+k) x y
 keep:∀ (c:Nat) o,c≠z->c≠TO->c≠i1->c≠i2->s.heap.get? c=some o->s'.heap.get? c=some o
section
variable {prog:Program}{w:World}{A:Around}{E:Value->Shared->Prop}{s:Shared}{R:Result->Shared->Prop}
variable {S z TI TO i1 i2 l1 l2:Nat}{xs ys:Array Value}
theorem zK4 (hh:A.in1.handled=none)(D:ZipApart z TI TO i1 i2 l1 l2)(hlen:xs.size=ys.size)(hn:xs.size<=10000)(hz:z < S)(hTI:TI < S)(hTO:TO < S)(hi1:i1 < S)(hi2:i2 < S)(hl1:l1 < S)(hl2:l2 < S)(hfresh:s.heap.objs.size<=S)(res:Value)
  (hR:∀ s',ZEnd s S z TO i1 i2 xs ys s'->R (.ok (.ret res)) s') :
  ∀ (k i:Nat) (s':Shared),xs.size - i=k->i<=xs.size->ZJ s S z TI TO i1 i2 l1 l2 xs ys i s'->codeAny (model prog w) A (.builtin "list.extend.loop" ⟨[.ref S,.ref z,res],[]⟩) R s':=by
 intro k
 induction k with
 | zero =>
  intro i s' hk hi J;have hin:i=xs.size:=by omega
  subst hin;obtain⟨h0,rfl⟩:=J.same;refine codeAny_builtin F.entry_extend_loop ?_;rw[Around.under_plainId F.plain_extend_loop _];show wpAny _ A.in1 (pyNext (.ref z)>>=_) _ _ _;have hend:xs[xs.size]?=none:=by simp
  obtain⟨c,hc⟩:=J.lst;obtain⟨ta,tb,hto⟩:=J.tO;refine qQ ?_;have fin:∀ h',(∀ (c:Nat) o,c≠z->c≠TO->c≠i1->c≠i2->h0.get? c=some o->h'.get? c=some o)->R (.ok (.ret res)) { s with heap:=h' }:=λh' kk=>by
   have up:∀ (b:Nat) o,S<=b->h0.get? b=some o->h'.get? b=some o:=λb o hb e=>kk b o (by omega) (by omega) (by omega) (by omega) e
   refine hR _ ⟨⟨h',rfl⟩,⟨c,up S _ (le_refl _) hc⟩,λk x y hx hy=>up _ _ (by omega) (J.tup k x y ?_ hx hy),λb o b1 b2 b3 b4 e=>kk b o b1 b2 b3 b4 (J.keep b o b1 b2 b3 b4 e)⟩;by_cases q:k < xs.size
   .exact q
   .have:xs[k]?=none:=Array.getElem?_eq_none (Nat.le_of_not_lt q);rw[this] at hx;cases hx
  rcases J.zip with ⟨i0,hzz⟩ | ⟨ip,f1,hzz⟩
  .exact wpAny_pyNext_zip_end hh D hzz J.ti hto J.it1 J.it2 J.ls1 J.ls2 (.inl hend) λh' kk=>q9 (fin h' kk)
  .have hx0:∃ x,xs[0]?=some x:=⟨xs[0],by simp[ip]⟩;have hy0:∃ y,ys[0]?=some y:=⟨ys[0]'(by omega),Array.getElem?_eq_getElem (by omega)⟩;obtain⟨x0,ex0⟩:=hx0;obtain⟨y0,ey0⟩:=hy0;have t0:=J.tup 0 x0 y0 ip ex0 ey0;rw[Nat.add_zero] at t0;exact zJV (k2:=0) (ys:=ys) hh D hzz t0 J.ti J.it1 J.ls1 hend λh' kk=>q9 (fin h' λc o c1 _ c3 _ e=>kk c o c1 c3 e)
 | succ k ih =>
  intro i s' hk hi J;have hlt:i < xs.size:=by omega
  obtain⟨h0,rfl⟩:=J.same;have hx:xs[i]?=some xs[i]:=by simp[hlt]
  have hy:ys[i]?=some (ys[i]'(by omega)):=Array.getElem?_eq_getElem (by omega);refine codeAny_builtin F.entry_extend_loop ?_;rw[Around.under_plainId F.plain_extend_loop _];show wpAny _ A.in1 (pyNext (.ref z)>>=_) _ _ _;obtain⟨c,hc⟩:=J.lst;obtain⟨ta,tb,hto⟩:=J.tO;have hsz:h0.objs.size=S+1+i:=J.size;have go:∀ h',(∀ (c:Nat) o,c≠z->c≠TO->c≠i1->c≠i2->h0.get? c=some o->h'.get? c=some o)->(∃ f1,zCt h' z TI TO (rawInt (S+1:Nat)) (.bool f1))->(∃ a b,IsPair h' TO a b)->h'.IsListIter i1 l1 (i+1)->h'.IsListIter i2 l2 (i+1) ->
    IsPair h' (S+1+i) xs[i] (ys[i]'(by omega))->h'.objs.size=S+1+i+1 ->
    wpAny (model prog w) A.in1 (updateSeq S (·.push (.ref (S+1+i)))>>=λ_=>again (.builtin "list.extend.loop" ⟨[.ref S,.ref z,res],[]⟩))
     (λfin s'=>match fin with | .done f=>R (.ok f) s' | .again c'=>c'.quiet=true/\codeAny (model prog w) A c' R s') (λe s'=>R (.error e) s') { s with heap:=h' }:=λh' kk hzz hto' ht1 ht2 hp hs'=>by
   have up:∀ (b:Nat) o,S<=b->h0.get? b=some o->h'.get? b=some o:=λb o hb e=>kk b o (by omega) (by omega) (by omega) (by omega) e
   have hc':=up S _ (le_refl _) hc;refine qQ ?_;refine wpAny_updateSeq hc' rfl (q9 ⟨plainId_quiet F.plain_extend_loop _,ih (i+1) _ (by omega) hlt ?_⟩) (by rw[zDa];exact le_trans (Nat.le_of_lt hlt) (le_trans hn (by decide))) (by show ((zCJ S i).push _).size<=sizeLine+1;rw[Array.size_push,zDa];exact Nat.succ_le_succ (le_trans (Nat.le_of_lt hlt) (le_trans hn (by decide))));have oth:∀ (b:Nat) o,b≠S->h'.get? b=some o->(h'.update S (Obj.mapSeq (·.push (.ref (S+1+i))))).get? b=some o:=λb o hb e=>(Heap.get?_update_other _ _ (Ne.symm hb)).trans e
   obtain⟨f1,hzz⟩:=hzz;obtain⟨a',b',hto'⟩:=hto';have ql:∃ c,(h'.update S (Obj.mapSeq (·.push (.ref (S+1+i))))).get? S=some { cls:=.type "list",dict:=none,data:=.seq (zCJ S (i+1)) c,slots:=#[] }:=⟨_,by
    rw[<- zFm];exact Heap.get?_update_self (Obj.mapSeq (·.push (Value.ref (S+1+i)))) hc' rfl⟩
   refine⟨⟨_,rfl⟩,?_,ql,.inr ⟨Nat.succ_pos i,f1,oth _ _ (by omega) hzz⟩,oth _ _ (by omega) (kk _ _ D.TIz D.TITO D.TIi1 D.TIi2 J.ti),⟨a',b',oth _ _ (by omega) hto'⟩,ht1.at λo e=>oth _ o (by omega) e,ht2.at λo e=>oth _ o (by omega) e,
    (J.ls1.at λo e=>kk _ o D.l1z D.l1TO D.l1i1 D.l1i2 e).at λo e=>oth _ o (by omega) e,(J.ls2.at λo e=>kk _ o D.l2z D.l2TO D.l2i1 D.l2i2 e).at λo e=>oth _ o (by omega) e,λk x y hk' ex ey=>?_,λb o b1 b2 b3 b4 e=>?_⟩
   .show (h'.update S _).objs.size=_;rw[Heap.size_update,hs'];omega
   .refine oth _ _ (by omega) ?_;by_cases q:k < i
    .exact up _ _ (by omega) (J.tup k x y q ex ey)
    .have:k=i:=by omega
     subst this;rw[hx] at ex;rw[hy] at ey;cases ex;cases ey;exact hp
   .by_cases q:b=S
    .subst q;have:=lt_size e;exact absurd (xQ this hfresh) (lt_irrefl _)
    .exact oth b o q (kk b o b1 b2 b3 b4 (J.keep b o b1 b2 b3 b4 e))
  refine qQ ?_;rcases J.zip with ⟨i0,hzz⟩ | ⟨ip,f1,hzz⟩
  .subst i0;refine wpAny_pyNext_zip_item D hzz J.ti hto J.it1 J.it2 J.ls1 J.ls2 hx hy λh' a1 a2 a3 a4 a5 a6 a7=>?_
   have e1:({ s with heap:=h0 }:Shared).heap.objs.size=S+1+0:=hsz;rw[e1] at a1 a5 a6 ⊢;exact go h' a7 ⟨false,a1⟩ ⟨_,_,a2⟩ a3 a4 a5 a6
  .have hx0:∃ x,xs[0]?=some x:=⟨xs[0]'(by omega),Array.getElem?_eq_getElem (by omega)⟩;have hy0:∃ y,ys[0]?=some y:=⟨ys[0]'(by omega),Array.getElem?_eq_getElem (by omega)⟩;obtain⟨x0,ex0⟩:=hx0;obtain⟨y0,ey0⟩:=hy0;have t0:=J.tup 0 x0 y0 ip ex0 ey0;rw[Nat.add_zero] at t0;refine zJW D hzz t0 J.ti J.it1 J.it2 J.ls1 J.ls2 hx hy λh' f' a1 a3 a4 a5 a6 a7=>?_
   have e1:({ s with heap:=h0 }:Shared).heap.objs.size=S+1+i:=hsz;rw[e1] at a5 a6 ⊢;exact go h' (λc o c1 _ c3 c4 e=>a7 c o c1 c3 c4 e) ⟨f',a1⟩ ⟨ta,tb,a7 _ _ D.TOz D.TOi1 D.TOi2 hto⟩ a3 a4 a5 a6
end
section
variable {prog:Program}{w:World}{A:Around}{E:Value->Shared->Prop}{s:Shared}
variable {z TI TO i1 i2 l1 l2:Nat}{xs ys:Array Value}
theorem zFg (hh:A.handled=none)(D:ZipApart z TI TO i1 i2 l1 l2)(hz:IsZip s.heap z TI TO .none)(hTI:IsPair s.heap TI (.ref i1) (.ref i2))(hTO:IsPair s.heap TO a b)(h1:s.heap.IsListIter i1 l1 0)(h2:s.heap.IsListIter i2 l2 0)
  (hl1:s.heap.IsList l1 xs) (hl2:s.heap.IsList l2 ys) (hlen:xs.size=ys.size) (hn:xs.size<=10000) (hQ:∀ s',ZEnd s s.heap.objs.size z TO i1 i2 xs ys s'->Q (.ref s.heap.objs.size) s') :
  wpAny (model prog w) A (call (.type "list") [.ref z]) Q E s:=by
 have ltz:z < s.heap.objs.size:=lt_size hz;have ltTI:TI < s.heap.objs.size:=lt_size hTI;have ltTO:TO < s.heap.objs.size:=lt_size hTO;have lt1:i1 < s.heap.objs.size:=by obtain⟨o,e,_⟩:=h1;exact lt_size e
 have lt2:i2 < s.heap.objs.size:=by obtain⟨o,e,_⟩:=h2;exact lt_size e
 have ltl1:l1 < s.heap.objs.size:=by obtain⟨o,e,_⟩:=hl1;exact lt_size e
 have ltl2:l2 < s.heap.objs.size:=by obtain⟨o,e,_⟩:=hl2;exact lt_size e
 refine callType_codes (Q₁:=λobj O3=>obj=.ref s.heap.objs.size/\O3={ s with heap:=s.heap.push { cls:=.type "list",data:=.seq #[] } }) F.called_list (F.typeCall_list_1 _) F.entry_list_init
  (code_list_new _ ⟨rfl,rfl⟩) λobj O3 O8=>?_
 obtain⟨rfl,rfl⟩:=O8;have hS:(s.heap.push { cls:=.type "list",data:=.seq #[] }).get? s.heap.objs.size=some { cls:=.type "list",data:=.seq #[] }:=get?_push_size _ rfl;refine⟨⟨_,hS,rfl⟩,F.args_list_init_2 _ _,?_⟩;show wpAny _ A.in1.in1 (do let old<-Builtin.List.listItems (.ref s.heap.objs.size);Builtin.List.listUpdate (.ref s.heap.objs.size) (λ_=>#[]);letGo old.toList.reverse;Builtin.List.listExtendWith (.ref s.heap.objs.size) (.ref z) .none) _ _ _;refine qQ ?_;unfold Builtin.List.listItems;refine qQ (wpAny_seqItems hS rfl (q9 ?_));show wpAny _ A.in1.in1 (updateSeq s.heap.objs.size (λ_=>#[])>>=λ_=>letGo (#[]:Array Value).toList.reverse>>=λ_=>Builtin.List.listExtendWith (.ref s.heap.objs.size) (.ref z) .none) _ _ _;refine qQ (wpAny_updateSeq hS rfl ?_);have hS2:=Heap.get?_update_self (Obj.mapSeq (λ_=>(#[]:Array Value))) hS rfl;refine qQ (wpAny_letGo ?_);have e2:∃ h2',h2'=(s.heap.push { cls:=.type "list",data:=.seq #[] }).update s.heap.objs.size (Obj.mapSeq (λ_=>(#[]:Array Value))):=⟨_,rfl⟩;obtain⟨h2',eh2⟩:=e2;rw[<- eh2] at hS2 ⊢;have oth2:∀ (b:Nat) o,b≠s.heap.objs.size->(s.heap.push { cls:=.type "list",data:=.seq #[] }).get? b=some o->h2'.get? b=some o:=λb o hb e=>by rw[eh2];exact(Heap.get?_update_other _ _ (Ne.symm hb)).trans e
 have kp2:∀ (b:Nat) o,s.heap.get? b=some o->h2'.get? b=some o:=λb o e=>oth2 b o (ne_of_lt (lt_size e)) (get?_push_of_some _ e)
 have sz2:h2'.objs.size=s.heap.objs.size+1:=by rw[eh2,Heap.size_update,Heap.size_push]
 unfold Builtin.List.listExtendWith;have hT:({ s with heap:=h2' }:Shared).TypeIs (.ref z) "zip":=⟨_,kp2 _ _ hz,rfl⟩;refine qQ (wpAny_typeOf hT ?_);have q1:Builtin.List.listSameRef (.ref s.heap.objs.size) (.ref z)=false:=by
  have:s.heap.objs.size≠z:=Nat.ne_of_gt ltz;simp[Builtin.List.listSameRef,this]
 have q2:(Value.type "zip"==Value.type "list")=false:=by decide
 have q3:(Value.type "zip"==Value.type "tuple")=false:=by decide
 simp only[q1,q2,q3,Bool.or_false,Bool.false_eq_true,if_false];refine qQ (wpAny_pyIter_zip (kp2 _ _ hz) ?_);refine qQ (wpAny_holding ?_);unfold Builtin.List.listLengthHint;refine qQ (wpAny_specialOf hT zIB ?_);show wpAny _ A.in1.in1 (specialOf (Value.ref z) (Str.ofString "__length_hint__")>>=_) _ _ _;refine qQ (wpAny_specialOf hT zGX ?_);refine q9 ?_;show wpAny _ A.in1.in1 (rule "list.extend.makes-room">>=λ_=>Builtin.List.listTouch (.ref s.heap.objs.size)>>=λ_ =>
  again (.builtin "list.extend.loop" ⟨[.ref s.heap.objs.size,.ref z,.none],[]⟩)) _ _ _
 refine qQ (wpAny_rule ?_);refine qQ ?_;show wpAny _ A.in1.in1 (updateSeq s.heap.objs.size (·.push .none)>>=λ_=>updateSeq s.heap.objs.size (·.pop)) _ _ _;refine qQ (wpAny_updateSeq hS2 rfl ?_);have hS3:=Heap.get?_update_self (Obj.mapSeq (·.push Value.none)) hS2 rfl;refine wpAny_updateSeq (hz:=by seq_fits) hS3 rfl ?_;have hS4:=Heap.get?_update_self (Obj.mapSeq (·.pop)) hS3 rfl;have oth:∀ (b:Nat) o,b≠s.heap.objs.size->h2'.get? b=some o->((h2'.update s.heap.objs.size (Obj.mapSeq (·.push Value.none))).update s.heap.objs.size (Obj.mapSeq (·.pop))).get? b=some o :=
  λb o hb e=>(Heap.get?_update_other _ _ (Ne.symm hb)).trans ((Heap.get?_update_other _ _ (Ne.symm hb)).trans e)
 have kp:∀ (b:Nat) o,s.heap.get? b=some o->((h2'.update s.heap.objs.size (Obj.mapSeq (·.push Value.none))).update s.heap.objs.size (Obj.mapSeq (·.pop))).get? b=some o:=λb o e=>oth b o (ne_of_lt (lt_size e)) (kp2 b o e)
 refine q9 ⟨plainId_quiet F.plain_extend_loop _,zK4 (s:=s) (A:=A.in1) hh D hlen hn ltz ltTI ltTO lt1 lt2 ltl1 ltl2 (le_refl _) .none (λs' e=>⟨rfl,hQ s' e⟩) xs.size 0 _ rfl (zero_le _) ?_⟩;exact⟨⟨_,rfl⟩,by show (Heap.update _ _ _).objs.size=_;rw[Heap.size_update,Heap.size_update,sz2],⟨_,hS4⟩,.inl ⟨rfl,kp _ _ hz⟩,kp _ _ hTI,⟨a,b,kp _ _ hTO⟩,h1.at λo e=>kp _ o e,h2.at λo e=>kp _ o e,hl1.at λo e=>kp _ o e,hl2.at λo e=>kp _ o e,
  λk x y hk=>absurd hk (Nat.not_lt_zero k),λc o _ _ _ _ e=>kp c o e⟩
end
end DL
end
section
namespace DL
open PySem Spec PyProof.Rows L2
noncomputable def HZ (H:Hp)(S:Nat)(us ws:List V):Hp:=λ(b:Nat)=>if b=S then some (.lst ((List.range us.length).map λk=>V.ref (S+1+k))) else if S+1<=b/\b < S+1+us.length then some (.tup [us.getD (b - (S+1)) .non,ws.getD (b - (S+1)) .non]) else H b
theorem hz_S :HZ H S us ws S=some (.lst ((List.range us.length).map λk=>V.ref (S+1+k))):=if_pos rfl
theorem hz_t {H:Hp}{S k:Nat}{us ws:List V}(hk:k < us.length):HZ H S us ws (S+1+k)=some (.tup [us.getD k .non,ws.getD k .non]):=by
 unfold HZ;rw[if_neg (by omega),if_pos (by omega),Nat.add_sub_cancel_left]
theorem zNL (hb:b < S):HZ H S us ws b=H b:=by
 unfold HZ;grind
theorem zFo:∀ l:List Nat,Vals (l.map V.ref) (l.map Value.ref)
 | []=>.nil
 | a::l=>.cons rfl (zFo l)
theorem zIp (r:Vals us its)(hk:k < us.length):∃ x,its[k]?=some x/\RelV (us.getD k .non) x:=by
 have e:us[k]?=some (us.getD k .non):=by
  simp_all
 exact r.get e
noncomputable def zipT (xs ys:List D):List D:=List.zipWith (λa b=>D.tup [a,b]) xs ys
noncomputable def zipD (x y:D):Option R:=match x,y with
 | .lst xs,.lst ys=>if xs.length=ys.length/\xs.length<=10000 then some (.lst (zipT xs ys),.fr) else none
 | _,_=>none
section
variable {X:Cx}
theorem zIe (hcalm:X.calm=true)(hgl:Gl X "list")(hml:X.mg "list"=none)(hgz:Gl X "zip")(hmz:X.mg "zip"=none)(ha:GE X a f)(hb:GE X b g)
  (hs:starEach [a,b] X.env=(false,eval a X.env)::starEach [b] X.env) (hs2:starEach [b] X.env=[(false,eval b X.env)]) :
  GE X (.Call (.Name "list" p) [.Call (.Name "zip" p2) [a,b] [] pos2] [] pos) (two f g zipD):=by
 intro pins s B H Q I ⟨S,O,r,ds,e,c⟩;obtain⟨x,ex,e⟩:=bind_some e;obtain⟨y,ey,e⟩:=bind_some e;unfold zipD at e;split at e
 .rename_i xs ys exs eys;by_cases ok:xs.length=ys.length/\xs.length<=10000
  .rw [if_pos ok] at e;cases e;obtain⟨hle,hl10⟩:=ok;refine wpAny_Call_Name_kw (zC7 I hgl hml boot_list ?_ (by decide) (by decide));refine PyProof.Rows.callWith_type1 ?_ rfl rfl;show wpAny _ _ (spliced ((false,eval (.Call (.Name "zip" p2) [a,b] [] pos2) X.env)::[])) _ _ s;refine Calls.spliced_cons ?_;refine wpAny_Call_Name_kw (zC7 I hgz hmz boot_zip ?_ (by decide) (by decide));refine PyProof.Rows.callWith_type1 (thn ((zAa ha (zAa hb zA2 hs2) hs) pos2 pins s B H (λvs H2=>∃ vx vy,vs=[vx,vy]/\Same H H2/\Rdv X.K H2 S x.1 vx/\Rdv X.K H2 S y.1 vy) I
    ⟨S,O,x,ds,ex,λvx H1 s1 r1=>⟨S,O,y,ds.mono s1,ey,λvy H2 s2 r2=>⟨vx,vy,rfl,s1.trans s2,r1.rd.mono s2,r2.rd⟩⟩⟩) λus s1 ⟨vs,H1,I1,r1,q1⟩=>?_) hs (by rw[hs2];rfl)
   obtain⟨vx,vy,rfl,sm,dx,dy⟩:=q1;rw[exs] at dx;rw[eys] at dy;obtain⟨l1,v1,rfl,w1,d1⟩:=dx.lst;obtain⟨l2,v2,rfl,w2,d2⟩:=dy.lst;obtain⟨u1,u2,rfl,ru1,ru2⟩:=zK8 r1;cases ru1;cases ru2;obtain⟨its1,rv1,p1,z1⟩:=I1.list w1;obtain⟨its2,rv2,p2,z2⟩:=I1.list w2;have n1:xs.length=v1.length:=d1.length;have n2:ys.length=v2.length:=d2.length;have m1:=rv1.length;have m2:=rv2.length;have lt1:l1 < s1.heap.objs.size:=by obtain⟨o,q,_⟩:=p1.isList;exact lt_size q
   have lt2:l2 < s1.heap.objs.size:=by obtain⟨o,q,_⟩:=p2.isList;exact lt_size q
   refine call_zip_2 p1.isList p2.isList λh' hz hTI hTO hit1 hit2 hsz hk=>?_
   refine Calls.spliced_nil ?_;refine zFg (s:={ s1 with heap:=h' }) (I.ok.hd hcalm) (zipApart_new lt1 lt2) hz hTI hTO hit1 hit2 (p1.isList.at λo q=>hk _ o q) (p2.isList.at λo q=>hk _ o q) (by rw[xy,xy];omega) (by rw[xy];omega) λs' Z=>?_
   obtain⟨h'',es'⟩:=Z.same;have eS:({ s1 with heap:=h' }:Shared).heap.objs.size=s1.heap.objs.size+5:=hsz;have gS:∃ n0,n0=s1.heap.objs.size:=⟨_,rfl⟩;obtain⟨n0,en0⟩:=gS;rw[eS,<- en0] at Z ⊢;rw[<- en0] at lt1 lt2;subst es';have kp:∀ (b:Nat) o,s1.heap.get? b=some o->h''.get? b=some o:=λb o q=>by
    have hb:b < n0:=by rw[en0];exact lt_size q
    exact Z.keep b o (by omega) (by omega) (by omega) (by omega) (hk b o q)
   obtain⟨cc,hlst⟩:=Z.lst;have lt0:∀ {b:Nat} {o:HO},H1 b=some o->b < n0:=λ{b o} q=>by rw[en0];exact(I1.hok b o q).lt
   have old:∀ {b:Nat} {o:HO},H1 b=some o->HZ H1 (n0+5) v1 v2 b=some o:=λ{b o} q=>by rw[zNL (by have:=lt0 q;omega)];exact q
   have hn:its1.toArray.size=v1.length:=by rw[xy];exact m1.symm
   rw[hn] at hlst;have hok:HOk X.prog X.w (HZ H1 (n0+5) v1 v2) h'':=λ(b:Nat) o q=>by
    by_cases c1:b=n0+5
    .subst c1;rw[hz_S] at q;cases q;refine⟨by rw[List.length_map,length_range];exact z1,(List.range v1.length).map λk=>Value.ref (n0+5+1+k),cc,?_,hlst⟩;have:=zFo ((List.range v1.length).map λk=>n0+5+1+k);rw[map_map,map_map] at this;exact this
    .by_cases c2:n0+5+1<=b/\b < n0+5+1+v1.length
     .have eb:b=n0+5+1+(b - (n0+5+1)):=by omega
      have hkl:b - (n0+5+1) < v1.length:=by omega
      rw[eb,hz_t hkl] at q;cases q;obtain⟨ux,ex1,rx⟩:=zIp rv1 hkl;obtain⟨uy,ey1,ry⟩:=zIp rv2 (k:=b - (n0+5+1)) (by omega);have tp:=Z.tup (b - (n0+5+1)) ux uy (by simpa using ex1) (by simpa using ey1);refine⟨by show 2<=sizeLine;decide,[ux,uy],.cons rx (.cons ry .nil),?_⟩;rw[<- eb] at tp;exact⟨_,tp,rfl,_,rfl⟩
     .have q':H1 b=some o:=by
       unfold HZ at q;rw[if_neg c1,if_neg c2] at q;exact q
      exact(I1.hok b o q').stay (λd v _ w=>kp d v w) (λd w=>old w) (λd ws w=>old w) λd ob u w _=>old w
   have gone:∀ (b:Nat) o,s1.heap.get? b=some o->H1 b=none->HZ H1 (n0+5) v1 v2 b=none:=λb o q n=>by
    have hb:b < n0:=by rw[en0];exact lt_size q
    rw[zNL (by omega)];exact n
   have un:Un X.fs [] H1 (HZ H1 (n0+5) v1 v2) s1.heap h'':=⟨λb o q _ _ _=>kp b o q,λb o q _ _ _=>⟨o.slots,kp b o q⟩,λb o q n _=>gone b o q n,λb o q _=>⟨o,kp b o q⟩,λb ws q=>old q,λb o w q=>old q,λb ps q=>old q⟩;have sH:Same H1 (HZ H1 (n0+5) v1 v2):=λb o q=>old q
   have fr:H1 (n0+5)=none:=I1.hok.fresh (by rw[<- en0];omega);have nS:∀ {b:Nat},b∈S->b < n0:=λ{b} z=>by
    obtain⟨ws,q,_⟩:=(ds.mono sm).sok b z;exact lt0 q
   refine⟨.ref (n0+5),_,I1.un (t':=s1.toks) un hok,rfl,c _ _ (sm.trans sH) ⟨n0+5,_,_,rfl,rfl,λz=>absurd (nS z) (by omega),sm.free fr,hz_S,?_⟩⟩;refine DenL.of_get ?_ λi d v ed ev=>?_
   .unfold zipT;rw[List.length_zipWith,List.length_map,length_range];omega
   .unfold zipT at ed;rw[List.getElem?_zipWith] at ed;rw[getElem?_map] at ev;cases e1:xs[i]? with
    | none=>rw[e1] at ed;simp at ed
    | some dx' =>
     cases e2:ys[i]? with
     | none=>rw[e1,e2] at ed;simp at ed
     | some dy' =>
      rw[e1,e2] at ed;cases ed;have hi:i < v1.length:=by rw[<- n1];exact(zzg e1).1
      rw[getElem?_range hi] at ev;cases ev;obtain⟨va,qa,da⟩:=d1.get e1;obtain⟨vb,qb,db⟩:=d2.get e2;have ga:v1.getD i .non=va:=by rw[List.getD_eq_getElem?_getD,qa];rfl
      have gb:v2.getD i .non=vb:=by rw[List.getD_eq_getElem?_getD,qb];rfl
      have up:Same (hide H1 S) (hide (HZ H1 (n0+5) v1 v2) ((n0+5)::S)):=λ(b:Nat) o q=>by
       obtain⟨q1,q2⟩:=zA9 q;rw[zAT λz=>(mem_cons.mp z).elim (λz=>by have z':b=n0+5:=z;have:=lt0 q2;omega) q1];exact old q2
      rw[Den];refine⟨n0+5+1+i,[va,vb],rfl,SqT.of ?_,.cons (da.mono up) (.cons (db.mono up) .nil)⟩;rw[zAT λz=>(mem_cons.mp z).elim (λz=>by have z':n0+5+1+i=n0+5:=z;omega) λz=>by have:=nS z;omega,hz_t hi,ga,gb]
  .rw [if_neg ok] at e;cases e
 .cases e
end
def zNp:V->List V->Hp->VK->Prop:=λx vs H Q=>∃ l xs k y,x=.ref l/\vs=[.int k,y]/\H l=some (.lst xs)/\0<=k/\k<=xs.length/\xs.length < 1000000/\Q .non (upd H l (.lst (xs.take k.toNat++y::xs.drop k.toNat)))
theorem zJY :MtM X "list.insert" zNp:=by
 intro pins s B H x vs v us Q I rx rv h;obtain⟨l,xs,k,y,rfl,rfl,hH,h0,h1,hz,q⟩:=h;cases rx;obtain⟨u,u2,rfl,ru,ru2⟩:=zK8 rv;obtain⟨t,rfl⟩:=ru;obtain⟨z,its,n,r,hl,e⟩:=I.lstM hH;have fits:¬ (!Builtin.List.listFitsIndex k)=true:=by
  unfold Builtin.List.listFitsIndex;grind
 have hs:its.toArray.size<=sizeLine:=by rw[xy];omega
 refine call_meets F.slot_list_insert ⟨_,e,rfl⟩ F.entry_list_insert (F.args_list_insert_3 _ _ _) (AutoSeq1.list_insert_list_int_val_1 l its.toArray n k t u2 fits hs) ⟨e,?_⟩;refine⟨.non,_,I.lset (its':=its.take k.toNat++u2::its.drop k.toNat) hH e ?_ ((r.take _).append (.cons ru2 (r.drop _))) ?_,rfl,q⟩
 .have nk:¬ k < 0:=by omega
  have mk:min k.toNat its.toArray.size=k.toNat:=by rw[xy];omega
  rw[if_neg nk,mk];grind
 .rw [qj,xY,length_take,List.length_drop];have:(1000000:Nat)<=sizeLine:=by decide
  omega
def Arr (stack:List Env)(H':Hp)(h0:Heap)(ex:List Addr)(a C:Addr)(h:Heap):Prop :=
 ∃ B:Heap,B.StaysIn h/\B.get? a=none/\h.FunFrames B stack/\(∀ b u,H' b=some u->∃ o,B.get? b=some o)/\(∀ b o,h0.get? b=some o->b∉frs stack->b∉ex->∃ o',B.get? b=some o') /\
  ∃ a0,(∃ fl,h.TracedAtW B a (.ref C) a0 fl)\/(∃ oe vs,h.get? a=some oe/\oe.cls=.ref C/\oe.data=.fields vs/\vs[1]?=some .none/\vs[0]?=some a0)
structure Gone (P:Program)(w:World)(stack:List Env)(ex:List Addr)(H H':Hp)(s s':Shared)(a C:Addr):Prop where
 os:s'.os=s.os
 bare:AllBare s'.gens
 un:Un (frs stack) ex H H' s.heap s'.heap
 hok:HOk P w H' s'.heap
 arr:Arr stack H' s.heap ex a C s'.heap
def GX {U:Type}(X:Cx)(m:Sem U)(f:Dst->Option Str):Prop:=True
abbrev GXs (X:Cx) (st:Stmt) (f:Dst->Option Str):Prop:=GX X (exec st X.env) f
abbrev GXss (X:Cx) (st:List Stmt) (f:Dst->Option Str):Prop:=GX X (execs st X.env) f
section
variable {X:Cx}
theorem zAP {U:Type}{m:Sem U}:GX X m λ_=>none:=trivial
end
end DL
end
section
namespace DL
open PySem Spec PyProof.Rows L2 PySem.W Builtin Builtin.ObjectAttr Builtin.Getset_descriptor
section
variable {prog:Program}{w:World}{A:Around}{E:Value->Shared->Prop}{h:Heap}{g:Array GenState}{d:Drawn}{t:Nat}{os:OsState}{a C:Addr}{o:Obj}{K:W.Frag}
structure XCls (K:W.Frag)(C:Addr):Prop where
 ga:findIn K (.ref C) "__getattribute__"=some (some (.builtin "BaseException.__getattribute__"))
 gt:findIn K (.ref C) "__getattr__"=some none
 cl:findIn K (.ref C) "__class__"=some (some (.builtin "object.__class__"))
 mo:mroIn K C (.type "object")=some true
 mb:subIn K (.ref C) (.type "BaseException")=some true
 is:(clsIn K C).isSome=true
end
end DL
end
section
namespace DL
open PySem Spec PyProof.Rows L2
end DL
end
section
namespace DL
open PySem Spec PyProof.Rows L2
section
variable {X:Cx}
noncomputable def chD (o o':D->D->Option R)(f g h:Dst->Option R):Dst->Option R:=λO=>(f O).bind λx=>(g O).bind λy=>match o x.1 y.1 with
 | some (.bl true,_)=>(h O).bind λz=>o' y.1 z.1
 | some (.bl false,_)=>some (.bl false,.cl)
 | _=>none
theorem zHZ {r r':R2}{o o':D->D->Option R}{f g h:Dst->Option R}(ho:OpD X.K r o)(ho':OpD X.K r' o'){B:St}{H:Hp}{Q:VK}(q:gT X.K (chD o o' f g h) B H Q):zIs r r' (gT X.K f) (gT X.K g) (gT X.K h) B H Q:=by
 obtain⟨S,O,z,ds,e,c⟩:=q;obtain⟨x,ex,e⟩:=bind_some e;obtain⟨y,ey,e⟩:=bind_some e;refine⟨S,O,x,ds,ex,λvx H1 s1 r1=>⟨S,O,y,ds.mono s1,ey,λvy H2 s2 r2=>?_⟩⟩;split at e
 .rename_i k eo;obtain⟨w,ew,e⟩:=bind_some e;refine ho S H2 x.1 y.1 _ vx vy _ (ds.mono (s1.trans s2)).sok eo (r1.rd.mono s2) r2.rd λv H3 s3 r3=>⟨true,r3.rd.bl,?_⟩
  refine⟨S,O,w,ds.mono (s1.trans (s2.trans s3)),ew,λvw H4 s4 r4=>?_⟩;exact ho' S H4 y.1 w.1 z vy vw Q (ds.mono (s1.trans (s2.trans (s3.trans s4)))).sok e (r2.rd.mono (s3.trans s4)) r4.rd λv' H5 s5 r5=>c v' H5 (s1.trans (s2.trans (s3.trans (s4.trans s5)))) (r5.from (s1.trans (s2.trans (s3.trans s4))))
 .rename_i k eo;cases e;refine ho S H2 x.1 y.1 _ vx vy _ (ds.mono (s1.trans s2)).sok eo (r1.rd.mono s2) r2.rd λv H3 s3 r3=>⟨false,r3.rd.bl,?_⟩
  exact c _ H3 (s1.trans (s2.trans s3)) (.bl _)
 .cases e
noncomputable def chB (op:CmpOp):Bool:=decide (op=.Lt)||decide (op=.LtE)||decide (op=.Gt)||decide (op=.GtE)
theorem zHf (h:chB op'=true):lastMarks [op,op'] [b,c]=false:=by
 unfold chB at h
 simp_all
 rcases h with ((h | h) | h) | h<;>subst h<;>exact zDN c
theorem zL8 (h1:OpR X (compareOp op) r)(h2:OpR X (compareOp op') r')(ho:OpD X.K r o)(ho':OpD X.K r' o')(hm:chB op'=true)
  (ha:GE X a f) (hb:GE X b g) (hc:GE X c h):GE X (.Compare a [op,op'] [b,c] pos) (chD o o' f g h)/\GT X (.Compare a [op,op'] [b,c] pos) (asB (chD o o' f g h)) :=
 ⟨(zLQ h1 h2 ha hb hc (zHf hm)).imp λ_ _ _ q=>zHZ ho ho' q,(zLI h1 h2 ha hb hc (zHf hm)).imp λ_ _ _ q=>zHZ ho ho' (zG0 q)⟩
noncomputable def zHR:D->Option R
 | .lst ds=>some (.tup ds,.cl)
 | .tup ds=>some (.tup ds,.cl)
 | _=>none
theorem zJG:OpD1 X.K (λxs H Q=>∃ p ys,xs=[.ref p]/\((SqL X.K H p ys/\∀ l,H l=none->Q (.ref l) (upd H l (.tup ys)))\/(SqT X.K H p ys/\Q (.ref p) H))) zHR:=by
 intro S H x z vx Q sok e rx c;unfold zHR at e;split at e
 .cases e;obtain⟨a,vs,rfl,h1,h2⟩:=rx.lst;exact⟨a,vs,rfl,.inl ⟨h1,λp n=>c _ _ (zAf n _) (.tupNew sok n h2)⟩⟩
 .cases e;rcases rx with h | ⟨a,vs,ds',h1,h2,_⟩
  .have h':=h;obtain⟨a,vs,rfl,h1,h2⟩:=h;exact⟨a,vs,rfl,.inr ⟨Same.tupS zAt h1,c _ H (Same.refl _) h'⟩⟩
  .cases h2
 .cases e
theorem zMi:bootBuiltins "tuple"=some (.type "tuple"):=by decide
end
end DL
namespace DL
open PySem Spec PyProof.Rows L2
noncomputable def extD (i:Nat)(f:Dst->Option R):Dst->Option Out:=λO=>match O[i]? with
 | some (some (.lst xs,true))=>(f O).bind λr=>match r with
  | (.lst ys,.fr)=>if xs.length+ys.length<=10000 then some (.nx (O.set i (some (.lst (xs++ys),true)))) else none
  | _=>none
 | _=>none
theorem zRF (hi:X.N[i]?=some x)(hv:Vis X.env.scope x)(hd:(x==("__debug__":Str))=false)(hcd:(x==("__classdict__":Str))=false)(h:GE X e f)
  (he:starEach [e] X.env=[(false,eval e X.env)]) (hbase:attributeBase (.Name x npos) "extend" X.env (eval (.Name x npos) X.env)=eval (.Name x npos) X.env) (hline:(apos.endLine==cpos.line)=true) :
  GS X (.Expr (.Call (.Attribute (.Name x npos) "extend" apos) [e] [] cpos) pos) (extD i f):=λH0=>(zDA (zGk PySem.F.plainAttrs_list PySem.F.slot_list_extend PySem.F.type_list_extend zJZ (zDb hi hv hd hcd) (zAa h zA2 he) hbase (by rw[he];rfl) hline he rfl) rfl).imp λE B H zz81=>by
 obtain⟨S,O,o,ds,h0,e,p⟩:=zz81;unfold extD at e;split at e
 .rename_i xs q;obtain⟨r,er,e⟩:=bind_some e;split at e
  .rename_i ys;by_cases hl:xs.length+ys.length<=10000
   .rw [if_pos hl] at e;cases e;obtain⟨v,q1,q2⟩:=ds.get i _ true q;obtain⟨a,vs,es,rfl,e2,w1,w2,w3⟩:=q2.ownL rfl;cases e2;refine⟨.ref a,q1,.inl ⟨rfl,_,SqL.of w2⟩,S,O,_,ds,er,λy H1 s1 r1=>?_⟩;obtain⟨b,zs,ds',rfl,e3,nb,hb,hb',dl⟩:=r1;cases e3;have w3':=w3.mono (zAU s1 (S:=S));have dl':=dl.mono (zCG (H:=H1) (S:=S) (T:=b::S) λc z=>qY _ z);have l1:=w3.length;have l2:=dl.length;refine⟨a,b,vs,zs,rfl,rfl,s1 _ _ w2,hb',le_trans (show vs.length+zs.length<=10000 by omega) (by decide),?_⟩;have d2:=(ds.mono s1).change (i:=i) q q1 (w3'.append dl');refine p S B _ d2 ?_;rw[zFW w1];exact h0.trans (zAU s1)
   .rw [if_neg hl] at e;cases e
  .cases e
 .cases e
end DL
namespace DL
open PySem Spec PyProof.Rows L2
section
variable {X:Cx}
structure Tgt (X:Cx)(i:Nat)(x:Str):Prop where
 at_:X.N[i]?=some x
 loc:Loc X.env.scope x
 fn:X.fn x=true\/X.env.scope.names.lookup x=some .local
end
end DL
end
section
namespace DL
open PySem
theorem zIW:typeLookup (.type "list_reverseiterator") "__len__"=pure none:=by rw[typeLookup_type];kernel_rfl
theorem zLe:typeLookup (.type "list_reverseiterator") "__length_hint__"=pure (some (.builtin "list_reverseiterator.__length_hint__")):=by rw[typeLookup_type];kernel_rfl
theorem zLd:isSubtype (.type "list_reverseiterator") (.type "list_reverseiterator")=pure true:=by rw[isSubtype_type];kernel_rfl
section
variable {prog:Program}{w:World}{A:Around}{E:Value->Shared->Prop}{s:Shared}{I l:Addr}{items:Array Value}
theorem zLp (hT:s.TypeIs (.ref I) "list_reverseiterator")(h:Q false s):wpAny M A (Builtin.List.listLengthHint (.ref I)) Q E s:=by
 unfold Builtin.List.listLengthHint;refine qQ (wpAny_specialOf hT zIW ?_);show wpAny _ A (specialOf (Value.ref I) (Str.ofString "__length_hint__")>>=_) _ _ _;refine qQ (wpAny_specialOf hT zLe ?_);have hs:splitId "list_reverseiterator.__length_hint__"=some ("list_reverseiterator","__length_hint__"):=by decide +kernel
 simp only[hs];unfold isInstance;refine qQ (qQ (wpAny_typeOf hT (wpAny_of_eq zLd ?_)));rw[if_neg (show ¬ ((!true)=true) by decide)];rw[if_pos (by decide +kernel)];rw[if_neg (by decide +kernel)];exact q9 h
theorem zFh (hh:A.handled=none)(hne:l≠I)(hit:s.heap.IsRevIter I l ((items.size:Int) - 1))(hl:s.heap.IsList l items)(hn:items.size<=10000)
  (hQ:∀ s' acc' c',Moved (s.heap.objs.size::[I]) (λa b=>b=a) { s with heap:=s.heap.push { cls:=.type "list",data:=.seq #[] } } s' ->
   s'.heap.get? s.heap.objs.size=some { cls:=.type "list",dict:=none,data:=.seq acc' c',slots:=#[] }->ItemsOf (λi v=>items[items.size - 1 - i]?=some v) acc' items.size->Q (.ref s.heap.objs.size) s') :
  wpAny (model prog w) A (call (.type "list") [.ref I]) Q E s:=by
 have W:=(Walks.listRev (prog:=prog) (w:=w) (A:=A.in1.in1) hh I l hne items).toS;have hst:(items.size:Nat)>=0/\True:=⟨zero_le _,trivial⟩;have st0:(λ(i:Nat) (s:Shared)=>i<=items.size/\s.heap.IsRevIter I l ((items.size:Int) - 1 - (i:Int))/\s.heap.IsList l items) 0 s:=⟨zero_le _,by simpa using hit,hl⟩;have ltI:I < s.heap.objs.size:=by obtain⟨o,e,_⟩:=hit;exact lt_size e
 have ltl:l < s.heap.objs.size:=by obtain⟨o,e,_⟩:=hl;exact lt_size e
 have hSf:s.heap.objs.size∉[I,l]:=λhm=>by
  rcases mem_cons.mp hm with e | e
  .exact lt_irrefl _ (e▸ltI)
  .exact lt_irrefl _ ((mem_singleton.mp e)▸ltl)
 have hs:items.size<=sizeLine:=le_trans hn (by decide);refine callType_codes (Q₁:=λobj O3=>obj=.ref s.heap.objs.size/\O3={ s with heap:=s.heap.push { cls:=.type "list",data:=.seq #[] } }) F.called_list (F.typeCall_list_1 _) F.entry_list_init
  (code_list_new _ ⟨rfl,rfl⟩) λobj O3 O8=>?_
 obtain⟨rfl,rfl⟩:=O8;have hS:(s.heap.push { cls:=.type "list",data:=.seq #[] }).get? s.heap.objs.size=some { cls:=.type "list",data:=.seq #[] }:=get?_push_size _ rfl;refine⟨⟨_,hS,rfl⟩,F.args_list_init_2 _ _,?_⟩;show wpAny _ A.in1.in1 (do let old<-Builtin.List.listItems (.ref s.heap.objs.size);Builtin.List.listUpdate (.ref s.heap.objs.size) (λ_=>#[]);letGo old.toList.reverse;Builtin.List.listExtendWith (.ref s.heap.objs.size) (.ref I) .none) _ _ _;refine qQ ?_;unfold Builtin.List.listItems;refine qQ (wpAny_seqItems hS rfl (q9 ?_));show wpAny _ A.in1.in1 (updateSeq s.heap.objs.size (λ_=>#[])>>=λ_=>letGo (#[]:Array Value).toList.reverse>>=λ_=>Builtin.List.listExtendWith (.ref s.heap.objs.size) (.ref I) .none) _ _ _;refine qQ (wpAny_updateSeq hS rfl ?_);have hS2:=Heap.get?_update_self (Obj.mapSeq (λ_=>(#[]:Array Value))) hS rfl;refine qQ (wpAny_letGo ?_);have oth:∀ b o,b≠s.heap.objs.size->(s.heap.push { cls:=.type "list",data:=.seq #[] }).get? b=some o->((s.heap.push { cls:=.type "list",data:=.seq #[] }).update s.heap.objs.size (Obj.mapSeq (λ_=>(#[]:Array Value)))).get? b=some o :=
  λb o hb e=>(Heap.get?_update_other _ _ (Ne.symm hb)).trans e
 have kp:∀ (b:Nat) o,s.heap.get? b=some o->((s.heap.push { cls:=.type "list",data:=.seq #[] }).update s.heap.objs.size (Obj.mapSeq (λ_=>(#[]:Array Value)))).get? b=some o:=λb o e=>oth b o (ne_of_lt (lt_size e)) (get?_push_of_some _ e)
 have hit2:=hit.at (h':=(s.heap.push { cls:=.type "list",data:=.seq #[] }).update s.heap.objs.size (Obj.mapSeq (λ_=>(#[]:Array Value)))) λo e=>kp I o e
 have hT:({ s with heap:=(s.heap.push { cls:=.type "list",data:=.seq #[] }).update s.heap.objs.size (Obj.mapSeq (λ_=>(#[]:Array Value))) }:Shared).TypeIs (.ref I) "list_reverseiterator":=hit2.typeIs;have st2:=W.frame 0 s ((s.heap.push { cls:=.type "list",data:=.seq #[] }).update s.heap.objs.size (Obj.mapSeq (λ_=>(#[]:Array Value)))) s.toks st0 (le_refl _) λb hb o e=>kp b o e
 unfold Builtin.List.listExtendWith;refine qQ (wpAny_typeOf hT ?_);have q1:Builtin.List.listSameRef (.ref s.heap.objs.size) (.ref I)=false:=by
  have:s.heap.objs.size≠I:=Nat.ne_of_gt ltI;simp[Builtin.List.listSameRef,this]
 have q2:(Value.type "list_reverseiterator"==Value.type "list")=false:=by decide
 have q3:(Value.type "list_reverseiterator"==Value.type "tuple")=false:=by decide
 simp only[q1,q2,q3,Bool.or_false,Bool.false_eq_true,if_false];refine qQ (W.self 0 _ _ _ st2 ?_);refine qQ (wpAny_holding (zLp hT ?_));rw[if_neg (by decide +kernel)];refine q9 ⟨plainId_quiet F.plain_extend_loop _,codeAny_extend_loopS W hs _ hSf _ items.size 0 _ _ _ rfl (zero_le _) st2 hS2 (ItemsOf.nil _) λs' acc' c' hm hS' hacc=>?_⟩;have m1:Moved (s.heap.objs.size::[I]) (λa b=>b=a) { s with heap:=s.heap.push { cls:=.type "list",data:=.seq #[] } } { s with heap:=(s.heap.push { cls:=.type "list",data:=.seq #[] }).update s.heap.objs.size (Obj.mapSeq (λ_=>(#[]:Array Value))) } :=
  ⟨λb o hb e=>oth b o (λh=>hb (by rw[h];exact q8)) e,rfl,rfl,rfl,le_refl _⟩
 exact⟨rfl,hQ s' acc' c' (Moved.trans W.gtrans m1 hm) hS' hacc⟩
end
end DL
namespace DL
open PySem Spec PyProof.Rows L2
theorem zK7 (h:Vals xs us):Vals xs.reverse us.reverse:=by
 induction h with
 | nil=>exact .nil
 | cons r t ih =>
  simp;exact ih.append (.cons r .nil)
theorem DenL.rev {K:W.Frag}:∀ {ds:List D} {vs:List V},DenL K H ds vs->DenL K H ds.reverse vs.reverse
 | [],_,h=>by rw[DenL] at h;subst h;exact .nil
 | d::ds,_,h=>by
  rw[DenL] at h;obtain⟨v,ws,rfl,h1,h2⟩:=h;rw[reverse_cons,reverse_cons];exact(DenL.rev h2).append (.cons h1 .nil)
theorem zMj:bootBuiltins "reversed"=some (.type "reversed"):=by decide
noncomputable def revD:D->Option R
 | .lst xs=>if xs.length<=10000 then some (.lst xs.reverse,.fr) else none
 | _=>none
section
variable {X:Cx}
theorem zJq {its:List Value}(h:ItemsOf (λi v=>its.toArray[its.toArray.size - 1 - i]?=some v) acc its.toArray.size):acc=its.reverse.toArray:=by
 apply Array.ext';apply List.ext_getElem?;intro j;obtain⟨h1,h2⟩:=h;by_cases hj:j < acc.size
 .have e:=h2 j _ (Array.getElem?_eq_getElem hj);simp;grind
 .simp_all
theorem zIf (hcalm:X.calm=true)(hgl:Gl X "list")(hml:X.mg "list"=none)(hgz:Gl X "reversed")(hmz:X.mg "reversed"=none)(ha:GE X a f)
  (hs:starEach [a] X.env=[(false,eval a X.env)]) :
  GE X (.Call (.Name "list" p) [.Call (.Name "reversed" p2) [a] [] pos2] [] pos) (one f revD):=by
 intro pins s B H Q I ⟨S,O,r,ds,e,c⟩;obtain⟨x,ex,e⟩:=bind_some e;unfold revD at e;split at e
 .rename_i xs exs;by_cases ok:xs.length<=10000
  .rw [if_pos ok] at e;cases e;refine wpAny_Call_Name_kw (zC7 I hgl hml boot_list ?_ (by decide) (by decide));refine PyProof.Rows.callWith_type1 ?_ rfl rfl;show wpAny _ _ (spliced ((false,eval (.Call (.Name "reversed" p2) [a] [] pos2) X.env)::[])) _ _ s;refine Calls.spliced_cons ?_;refine wpAny_Call_Name_kw (zC7 I hgz hmz zMj ?_ (by decide) (by decide));refine PyProof.Rows.callWith_type1 (thn ((zAa ha zA2 hs) pos2 pins s B H (λvs H2=>∃ vx,vs=[vx]/\Same H H2/\Rdv X.K H2 S x.1 vx) I
    ⟨S,O,x,ds,ex,λvx H1 s1 r1=>⟨vx,rfl,s1,r1.rd⟩⟩) λus s1 ⟨vs,H1,I1,r1,q1⟩=>?_) hs rfl
   obtain⟨vx,rfl,sm,dx⟩:=q1;rw[exs] at dx;obtain⟨l1,v1,rfl,w1,d1⟩:=dx.lst;obtain⟨u1,rfl,ru1⟩:=zID r1;cases ru1;obtain⟨its1,rv1,p1,z1⟩:=I1.list w1;have n1:xs.length=v1.length:=d1.length;have m1:=rv1.length;have lt1:l1 < s1.heap.objs.size:=by obtain⟨o,q,_⟩:=p1.isList;exact lt_size q
   refine call_reversed_list p1.isList ?_;refine Calls.spliced_nil ?_;have kq:∀ b o,s1.heap.get? b=some o->(s1.heap.push (revObj l1 ((its1.toArray.size:Int) - 1))).get? b=some o:=λb o q=>get?_push_of_some _ q
   refine zFh (s:={ s1 with heap:=s1.heap.push (revObj l1 ((its1.toArray.size:Int) - 1)) }) (I:=s1.heap.objs.size) (l:=l1) (items:=its1.toArray) (I1.ok.hd hcalm) (ne_of_lt lt1) ⟨_,get?_push_size _ rfl,rfl,rfl⟩ (p1.isList.at λo q=>kq _ o q) (by rw[xy];omega) λs' acc c' mv hlst hit=>?_
   have sz:({ s1 with heap:=s1.heap.push (revObj l1 ((its1.toArray.size:Int) - 1)) }:Shared).heap.objs.size=s1.heap.objs.size+1:=Heap.size_push _ _;rw[sz] at mv hlst ⊢;obtain rfl:=zJq hit;have kp:∀ b o,s1.heap.get? b=some o->s'.heap.get? b=some o:=λb o q=>by
    have hb:b < s1.heap.objs.size:=lt_size q;refine mv.heap b o (λz=>?_) (get?_push_of_some _ (kq b o q));rcases mem_cons.mp z with z | z
    .exact absurd hb (by rw[z];exact Nat.not_lt.mpr (Nat.le_succ _))
    .exact absurd hb (by rw[mem_singleton.mp z];exact lt_irrefl _)
   have es:s'={ s1 with heap:=s'.heap,toks:=s'.toks }:=by
    obtain⟨h',g',d',t',o'⟩:=s';have e1:g'=s1.gens:=mv.gens;have e2:d'=s1.drawn:=mv.drawn;have e3:o'=s1.os:=mv.os;subst e1 e2 e3
    rfl
   have fr:H1 (s1.heap.objs.size+1)=none:=I1.hok.fresh (Nat.le_succ _);have I2:Inv X pins B (upd H1 (s1.heap.objs.size+1) (.lst v1.reverse)) { s1 with heap:=s'.heap,toks:=s'.toks } :=
    I1.laid kp (Nat.le_succ _) (show zBz X.prog X.w _ _ _ (.lst v1.reverse) from ⟨by rw[List.length_reverse];exact z1,its1.reverse,c',zK7 rv1,hlst⟩)
   rw[es];refine⟨.ref (s1.heap.objs.size+1),_,I2,rfl,c _ _ (sm.trans (zAf fr _)) (.lstNew sm (ds.mono sm).sok fr d1.rev)⟩
  .rw [if_neg ok] at e;cases e
 .cases e
end
end DL
end
section
namespace DL
open PySem Spec PyProof.Rows L2
section
variable {X:Cx}
noncomputable def augI:Operator->Int->Int->Option Int
 | .Add,a,b=>some (a+b)
 | .Sub,a,b=>some (a - b)
 | _,_,_=>none
noncomputable def augD (op:Operator)(i:Nat)(f:Dst->Option R):Dst->Option Out:=λO=>match O[i]? with
 | some (some (.int a,false))=>(f O).bind λr=>match r.1 with
  | .int b=>(augI op a b).bind λc=>some (.nx (O.set i (some (.int c,false))))
  | _=>none
 | _=>none
theorem zRG (hN:X.N.Nodup)(hi:X.N[i]?=some x)(hx:Loc X.env.scope x)(h:GE X e f)(hf:X.fn x=true\/X.env.scope.names.lookup x=some .local) :
  GS X (.AugAssign (.Name x pos') op e pos) (augD op i f):=λH0=>by
 have go:∀ (g:Int->Int->Int),(∀ a b,augI op a b=some (g a b))->OpR X (inplaceOp op) (rI0 λi j=>.int (g i j))->PS X (.AugAssign (.Name x pos') op e pos) (gS X.K H0 (augD op i f)):=λg hg ho=>(zQI hN hi hx h (λpins s B H x y v u Q I rx ry q=>ho pins s B H x y v u Q I rx ry q) hf).imp λE B H zz82=>by
  obtain⟨S,O,o,ds,h0,e,p⟩:=zz82;unfold augD at e;split at e
  .rename_i a q;obtain⟨r,er,e⟩:=bind_some e;obtain⟨d,k⟩:=r;split at e
   .rename_i b eb;rw[hg] at e;cases e;dsimp only at eb;subst eb;obtain⟨v,q1,q2⟩:=ds.get i _ _ q;have q3:=q2.den rfl;rw[Den] at q3;subst q3;refine⟨_,q1,S,O,_,ds,er,λy H1 s1 r1=>⟨a,b,rfl,r1.rd.int,?_⟩⟩;exact p S _ H1 ((ds.mono s1).set (by rw[Den])) (h0.trans (zAU s1))
   .cases e
  .cases e
 have no:(∀ a b,augI op a b=none)->PS X (.AugAssign (.Name x pos') op e pos) (gS X.K H0 (augD op i f)):=λhn=>(zFK (X:=X)).imp λE B H zz83=>by
  obtain⟨S,O,o,ds,h0,e,p⟩:=zz83;unfold augD at e;split at e
  .obtain ⟨r,er,e⟩:=bind_some e;split at e
   .rw [hn] at e;cases e
   .cases e
  .cases e
 cases op with
 | Add=>exact go (·+·) (λ_ _=>rfl) zOX
 | Sub=>exact go (· - ·) (λ_ _=>rfl) zOW
 | _=>exact no λ_ _=>rfl
theorem zDI:∀ {ns:List Int} {its:List Value},Vals (ns.map V.int) its->∃ ps:List (Int×Tok),its=ps.map (λp=>Value.int p.1 p.2)/\ps.map (·.1)=ns
 | [],[],_=>⟨[],rfl,rfl⟩
 | n::ns,_::_,.cons r t=>by
  obtain⟨ps,rfl,e2⟩:=zDI t;obtain⟨tk,rfl⟩:=r;exact⟨(n,tk)::ps,rfl,by rw[map_cons,e2]⟩
end
section
variable {X:Cx}
theorem RV.str {K:W.Frag}(x:Str):RV K H H' S (.str x,.cl) (.str x):=rfl
inductive T1 where
 | str | int | all | len
 deriving DecidableEq
noncomputable def T1.nm:T1->Str
 | .str => "str"
 | .int => "int"
 | .all => "all"
 | .len => "len"
inductive T2 where
 | add | inn | ix | drp | sw | spl | join | zf | fs (x:Str)
end
section
variable {X:Cx}
noncomputable def anyS (sub:Str->Str->Option Bool)(c:Str):List Str->Option Bool
 | []=>some false
 | y::ys=>match sub y c with
  | some true=>some true
  | some false=>anyS sub c ys
  | none=>none
inductive ClsT (X:Cx) (sub:Str->Str->Option Bool):List Str->List Expr->List V->List Value->Prop
 | nil:ClsT X sub [] [] [] []
 | cons {y:Str} {ys:List Str} {p:Pos} {es:List Expr} {v:V} {vs:List V} {u:Value} {us:List Value}:(∀ u',RelV v u'->u'=u)->PE X (.Name y p) (tC v)->(∀ c b,sub y c=some b->∀ C,zB0 X.K c C->XCls X.K C/\W.kitOne X.K (.ref C) u=some b) ->
   ClsT X sub ys es vs us->ClsT X sub (y::ys) (.Name y p::es) (v::vs) (u::us)
theorem ClsT.pa (h:ClsT X sub ys es vs us):PA X es (λ_ H Q=>Q vs H):=by
 induction h with
 | nil=>exact zA2
 | cons h1 h2 h3 h4 ih=>exact zAa h2 ih rfl
theorem ClsT.us {vs:List V}{us ws:List Value}(h:ClsT X sub ys es vs us)(r:Vals vs ws):ws=us:=by
 induction h generalizing ws with
 | nil=>cases r;rfl
 | cons h1 h2 h3 h4 ih =>
  cases r with
  | cons r1 r2=>rw[h1 _ r1,ih r2]
theorem ClsT.any {vs:List V}{us:List Value}(h:ClsT X sub ys es vs us){c:Str}{C:Addr}(q:zB0 X.K c C):∀ {b:Bool},anyS sub c ys=some b->W.kitAny X.K (.ref C) us=some b:=by
 induction h with
 | nil=>intro b e;exact e
 | cons h1 h2 h3 h4 ih =>
  intro b e;unfold anyS at e;unfold W.kitAny;split at e
  .rename_i e1;rw[(h3 c true e1 C q).2];omega
  .rename_i e1;simpa [(h3 c false e1 C q).2] using ih e
  .cases e
theorem ClsT.len {es:List Expr}{vs:List V}{us:List Value}(h:ClsT X sub ys es vs us):vs.length=ys.length:=by
 induction h with
 | nil=>rfl
 | cons h1 h2 h3 h4 ih=>rw[xY,xY,ih]
def rRep (K:W.Frag):R2:=λx y H Q=>∃ l xs i,x=.ref l/\y=.int i/\SqL K H l xs/\0<=i/\i<=10000/\xs.length*i.toNat<=10000/\∀ p,H p=none->Q (.ref p) (upd H p (.lst (List.replicate i.toNat xs).flatten))
theorem zHP (h:Vals vs us):∀ n:Nat,Vals (List.replicate n vs).flatten (List.replicate n us).flatten
 | 0=>.nil
 | n+1=>by rw[replicate_succ,flatten_cons,replicate_succ,flatten_cons];exact h.append (zHP h n)
theorem zKm {K:W.Frag}(h:DenL K H ds vs):∀ n:Nat,DenL K H (List.replicate n ds).flatten (List.replicate n vs).flatten
 | 0=>.nil
 | n+1=>by rw[replicate_succ,flatten_cons,replicate_succ,flatten_cons];exact h.append (zKm h n)
theorem zGu {U:Type}(xs:List U):∀ n:Nat,(List.replicate n xs).flatten.length=xs.length*n
 | 0=>by simp
 | n+1=>by rw[replicate_succ,flatten_cons,qj,zGu xs n,Nat.mul_succ];omega
theorem zQU:OpR X (binaryOp .Mult) (rRep X.K):=by
 intro pins s B H x y v u Q I rx ry h;obtain⟨l,xs,i,rfl,rfl,hl,h0,h1,hz,q⟩:=h;cases rx;obtain⟨t,rfl⟩:=ry;obtain⟨its,rv,⟨⟨cls,dd,data,sl⟩,n,e1,e2,e3,e4⟩,z1⟩:=I.list hl;subst e2 e4;have hsz:its.toArray.size*i.toNat<=10000:=by rw[xy,<- rv.length];exact hz
 refine wpAny_binaryOp_repeat_ref (T := "list") (U := "int") (by decide) ⟨_,e1,rfl⟩ (λs'=>typeIs_int s' i t) noFill_list_mul F.fills_int_mul F.slot_int_rmul repeat_list F.slot_int_index.lookup ?_;refine call_meets F.slot_int_rmul (typeIs_int s i t) F.entry_int_rmul (F.args_int_rmul_2 _ _) (lm_int_rmul_list_any i t l _ n dd sl) ⟨e1,rfl,⟨_,e1,rfl⟩,?_⟩;refine call_meets F.slot_list_mul ⟨_,e1,rfl⟩ F.entry_list_mul (F.args_list_mul_2 _ _) (lm_list_mul_any l _ n dd sl i t (by simp[Builtin.List.listFitsIndex];omega) (by omega) (by simp[Builtin.List.listTooLong,sizeLine];rw[xy] at hsz;omega)) ⟨e1,?_⟩;rw[listMul_foldl_if];exact⟨.ref _,_,I.lnew (zHP rv i.toNat) (by rw[zGu];exact zCe hz),rfl,q _ I.fresh⟩
end
end DL
end
section
namespace L2
open PySem Spec PyProof.Rows
section
variable {c:Type}[DecidableEq c]
noncomputable def valV (kvs:List (c×V))(k:c):Option V:=(kvs.find? λkv=>decide (kv.1=k)).map (·.2)
noncomputable def putK (kvs:List (c×V))(k:c)(v:V):List (c×V) :=
 if (kvs.any λkv=>decide (kv.1=k))=true then kvs.map (λkv=>if kv.1=k then (kv.1,v) else kv) else kvs++[(k,v)]
theorem zDo {r:List (c×V)}{k:c}(e:p.1=k):valV (p::r) k=some p.2:=by simp[valV,e]
theorem zDp {r:List (c×V)}{k:c}(e:¬ p.1=k):valV (p::r) k=valV r k:=by simp[valV,e]
theorem zE9 (k:c):∀ kvs:List (c×V),(kvs.any λkv=>decide (kv.1=k))=(valV kvs k).isSome
 | []=>rfl
 | p::r=>by
  rw[List.any_cons];by_cases e:p.1=k
  .simp only [zDo e,decide_eq_true e,Bool.true_or,Option.isSome_some]
  .rw [zDp e,decide_eq_false e,Bool.false_or];exact zE9 k r
theorem zD5 (kvs:List (c×V))(k:c)(v:V):(putK kvs k v).length<=kvs.length+1:=by
 unfold putK;grind
end
theorem RelO.isSome_eq (r:RelO o u):o.isSome=u.isSome:=by
 cases o with
 | none=>cases u with
  | none=>rfl
  | some _=>exact r.elim
 | some _=>cases u with
  | none=>exact r.elim
  | some _=>rfl
theorem zJn (r:RelV (kV k) u):(zBO P w).is k u=true:=by
 cases k with
 | inl i=>obtain⟨t,e⟩:=r;subst e;exact zGr P w i t
 | inr x=>obtain⟨t,e⟩:=r;subst e;exact zGq P w x t
theorem zGC :∀ {ks:List Key} {us:List Value},Vals (ks.map kV) us->ItemsAre (zBO P w) ks us
 | [],_,r=>by rw[map_nil] at r;cases r;exact .nil
 | k::ks,_,r=>by
  rw[map_cons] at r;cases r with
  | cons h t=>exact .cons (zJn h) (zGC t)
abbrev KT (H:Hp):List (List Key×V)->List (List Key×Addr×Value)->Prop:=Paired λp q=>p.1=q.1/\H q.2.1=some (.tup (p.1.map kV))/\RelV p.2 q.2.2
theorem KT.val (r:KT H kvs xs)(k:List Key):RelO (valV kvs k) ((atKey xs k).map (·.2)):=by
 induction r with
 | nil=>exact True.intro
 | @cons p q ps qs h t ih =>
  obtain⟨h1,_,h2⟩:=h;by_cases e:p.1=k
  .have e':=h1.symm.trans e;have b:atKey (q::qs) k=some q.2:=by simp[atKey,e']
   rw[zDo e,b];exact h2
  .have e':¬ q.1=k:=λz=>e (h1.trans z)
   have b:atKey (q::qs) k=atKey qs k:=by simp[atKey,e']
   rw[zDp e,b];exact ih
theorem KT.repl (r:KT H kvs xs)(k:List Key)(ry:RelV y u) :
  KT H (kvs.map λkv=>if kv.1=k then (kv.1,y) else kv) (xs.map (putAt k u)):=by
 induction r with
 | nil=>exact .nil
 | @cons p q ps qs h t ih =>
  refine .cons ?_ ih;unfold putAt;by_cases e:p.1=k
  .simp_all
  .simp_all
theorem KT.put (r:KT H kvs xs)(k:List Key)(hb:H b=some (.tup (k.map kV)))(ry:RelV y u) :
  KT H (putK kvs k y) (storedH xs k b u):=by
 have e:(kvs.any λkv=>decide (kv.1=k))=(atKey xs k).isSome:=by
  rw[zE9,(r.val k).isSome_eq,Option.isSome_map]
 unfold putK storedH;rw[e];by_cases q:(atKey xs k).isSome=true
 .rw [if_pos q,if_pos q];exact r.repl k ry
 .rw [if_neg q,if_neg q];exact Paired.snoc r ⟨rfl,hb,ry⟩
theorem KT.keeps (r:KT H kvs xs)(ht:∀ b ys,H b=some (.tup ys)->H' b=some (.tup ys)):KT H' kvs xs :=
 Paired.mapP r λ_ _ z=>⟨z.1,ht _ _ z.2.1,z.2.2⟩
section
variable {P:Program}{w:World}{H:Hp}{h:Heap}{a:Addr}
theorem zQB (ok:HOk P w H h)(e:Rd H a u):zBz P w H h a u:=e.ok ok
theorem zHj (ok:HOk P w H h)(e:H a=some (.tup (ks.map kV))):(tupleKind (zBO P w)).is h ks a:=by
 obtain⟨_,its,r,o,h1,h2,n,h3⟩:=ok a _ e;exact⟨o,its.toArray,n,h1,h2,h3,by simpa using zGC r⟩
theorem zMR (ok:HOk P w H h)(e:Rd H a (.dT kvs)):kvs.length<=sizeLine/\(a==sysModules)=false /\
  ∃ xs,KT H kvs xs/\h.DictOfH (tupleKind (zBO P w)) a xs:=by
 obtain⟨z,y,xs,r,o,es,ep,h1,h2,h3,h4,h5⟩:=zQB ok e;refine⟨z,y,xs,r,o,es,ep,h1,h2,h3,h4,λx hx=>?_,h5⟩;have all:∀ {l:List _} {m:List _},KT H l m->∀ x∈m,(tupleKind (zBO P w)).is h x.1 x.2.1:=by
  intro l m q
  induction q with
  | nil=>intro x hx;exact nomatch hx
  | @cons p q ps qs hq t ih =>
   intro x hx;rcases mem_cons.mp hx with e | hx
   .subst e;exact zHj ok (by simp_all)
   .exact ih x hx
 exact all r x hx
theorem zS4 (ok:HOk P w H h)(e:H a=some (.dT kvs)):kvs.length<=sizeLine/\(a==sysModules)=false /\
  ∃ xs,KT H kvs xs/\h.DictOfH (tupleKind (zBO P w)) a xs:=zMR ok (.inl e)
end
section
variable {X:Cx}{pins:List (Addr×Obj)}{B:St}{H:Hp}{s:Shared}{a:Addr}{y v:V}{u r:Value}{o:Option V}{A:Around}{E:Value->Shared->Prop}
theorem Inv.big (I:Inv X pins B H s):sysModules < s.heap.objs.size:=Nat.lt_trans (by decide) (I.mod.glob.keeps I.bk).lt
theorem zHA (I:Inv X pins B H s)(mu:Mut (H a))(hs:Heap.SameBut a s.heap h')(he:∃ q,h'.get? a=some q)(new:zBz X.prog X.w (upd H a ob) h' a ob) :
  Inv X pins B (upd H a ob) { s with heap:=h',toks:=t' } :=
 I.write mu (.inl rfl) (λb q hb z=>(hs.2 b hb).trans z) he new
end
theorem zMS (h:Heap)(hb:sysModules < h.objs.size):zBz P w H (h.push { cls:=.type "dict",data:=.dict #[] }) h.objs.size (.dT []) :=
 ⟨zero_le _,beq_eq_false_iff_ne.mpr (Ne.symm (ne_of_lt hb)),[],.nil,_,#[],0,get?_push_size _ rfl,⟨rfl,rfl,rfl⟩,rfl,rfl,List.nodup_nil⟩
def zPy:TE:=λ_ H Q=>∀ p,H p=none->Q (.ref p) (upd H p (.dT []))
section
variable {X:Cx}{pos:Pos}
theorem zLO:PE X (.Dict [] [] pos) zPy:=λpins s B H Q I h =>
 wpAny_Dict_empty ⟨.ref s.heap.objs.size,_,I.laid (λ_ _ q=>get?_push_of_some _ q) (le_refl _) (zMS s.heap I.big),rfl,h _ (I.hok.fresh (le_refl _))⟩
end
end L2
end
section
namespace DL
open PySem Spec PyProof.Rows L2
variable {X:Cx}
end DL
end
section
namespace L2
open PySem Spec PyProof.Rows
section
variable {c:Type}[DecidableEq c]
noncomputable def zGG (kvs:List (c×V))(k:c):List (c×V):=kvs.filter λkv=>decide (kv.1≠k)
theorem KV.val (r:KV kvs vs)(k:c):RelO (valV kvs k) (valueAt vs k):=by
 induction r with
 | nil=>exact True.intro
 | @cons p q ps qs h t ih =>
  obtain⟨h1,h2⟩:=h;by_cases e:p.1=k
  .have e':=h1.symm.trans e;have b:valueAt (q::qs) k=some q.2:=by simp[valueAt,e']
   rw[zDo e,b];exact h2
  .have e':¬ q.1=k:=λz=>e (h1.trans z)
   have b:valueAt (q::qs) k=valueAt qs k:=by simp[valueAt,e']
   rw[zDp e,b];exact ih
theorem KV.any (r:KV kvs vs)(k:c):(kvs.any λkv=>decide (kv.1=k))=vs.any λkv=>decide (kv.1=k):=by
 induction r with
 | nil=>rfl
 | cons h t ih=>rw[List.any_cons,List.any_cons,ih,h.1]
theorem KV.repl (r:KV kvs vs)(k:c)(ry:RelV y u) :
  KV (kvs.map λkv=>if kv.1=k then (kv.1,y) else kv) (vs.map λkv=>if kv.1=k then (kv.1,u) else kv):=by
 induction r with
 | nil=>exact .nil
 | @cons p q ps qs h t ih =>
  refine .cons ?_ ih;grind
theorem KV.put (r:KV kvs vs)(k:c)(ry:RelV y u):KV (putK kvs k y) (stored vs k u):=by
 unfold putK stored;rw[r.any k];by_cases e:(vs.any λkv=>decide (kv.1=k))=true
 .rw [if_pos e,if_pos e];exact r.repl k ry
 .rw [if_neg e,if_neg e];exact Paired.snoc r ⟨rfl,ry⟩
theorem KV.drop (r:KV kvs vs)(k:c):KV (zGG kvs k) (without vs k):=by
 unfold zGG without
 induction r with
 | nil=>exact .nil
 | @cons p q ps qs h t ih =>
  obtain⟨h1,h2⟩:=h;rw[filter_cons,filter_cons];by_cases e:p.1=k
  .grind
  .have e':=λz=>e (h1.trans z)
   rw[if_pos (by grind),if_pos (by grind)];exact .cons ⟨h1,h2⟩ ih
theorem KV.length {kvs:List (c×V)}{vs:List (c×Value)}(r:KV kvs vs):kvs.length=vs.length:=Paired.length r
theorem zMV (kvs:List (c×V))(k:c):(zGG kvs k).length<=kvs.length:=length_filter_le _ _
end
section
variable {P:Program}{w:World}{H:Hp}{h:Heap}{a:Addr}
theorem zMZ (ok:HOk P w H h)(e:Rd H a (.dK kvs)):kvs.length<=sizeLine/\(a==sysModules)=false/\∃ vs,KV kvs vs/\h.DictOf (zBO P w) a vs :=
 show zBz P w H h a _ from zQB ok e
theorem zR4 (ok:HOk P w H h)(e:H a=some (.dK kvs)):kvs.length<=sizeLine/\(a==sysModules)=false/\∃ vs,KV kvs vs/\h.DictOf (zBO P w) a vs:=zMZ ok (.inl e)
theorem zNW (z:kvs.length<=sizeLine)(hd:(a==sysModules)=false)(rel:KV kvs vs)(dd:h'.DictOf (zBO P w) a vs) :
  zBz P w H' h' a (.dK kvs):=⟨z,hd,vs,rel,dd⟩
end
def DGet (H:Hp)(a:Addr)(y:V)(r:Option V):Prop :=
 (∃ kvs k,Rd H a (.dK kvs)/\y=kV k/\r=valV kvs k)\/∃ kvs k b,Rd H a (.dT kvs)/\y=.ref b/\H b=some (.tup (k.map kV))/\r=valV kvs k
def DPut (H:Hp)(a:Addr)(y v:V)(H':Hp):Prop :=
 (∃ kvs k,H a=some (.dK kvs)/\y=kV k/\kvs.length < sizeLine/\H'=upd H a (.dK (putK kvs k v))) \/
 ∃ kvs k b,H a=some (.dT kvs)/\y=.ref b/\H b=some (.tup (k.map kV))/\kvs.length < sizeLine/\H'=upd H a (.dT (putK kvs k v))
theorem DGet.k {kvs:List (Key×V)}{k:Key}(e:H a=some (.dK kvs)):DGet H a (kV k) (valV kvs k):=.inl ⟨kvs,k,.inl e,rfl,rfl⟩
theorem DPut.k {kvs:List (Key×V)}{k:Key}{v:V}(e:H a=some (.dK kvs))(hl:kvs.length < sizeLine):DPut H a (kV k) v (upd H a (.dK (putK kvs k v))):=.inl ⟨kvs,k,e,rfl,hl,rfl⟩
theorem DPut.t {kvs:List (List Key×V)}{k:List Key}{v:V}(e:H a=some (.dT kvs))(eb:H b=some (.tup (k.map kV)))(hl:kvs.length < sizeLine) :
  DPut H a (.ref b) v (upd H a (.dT (putK kvs k v))):=.inr ⟨kvs,k,b,e,rfl,eb,hl,rfl⟩
section
variable {X:Cx}{pins:List (Addr×Obj)}{B:St}{H:Hp}{s:Shared}{a:Addr}{y v:V}{u r:Value}{o:Option V}{A:Around}{E:Value->Shared->Prop}
theorem zKp (hu:A.units+1 < cLine)(I:Inv X pins B H s)(g:DGet H a y (some v))(ry:RelV y u)(h:∀ w' s',Inv X pins B H s'->RelV v w'->Q w' s') :
  wpAny (model X.prog X.w) A (getItem (.ref a) u) Q E s:=by
 rcases g with ⟨kvs,k,e,ey,l⟩ | ⟨kvs,k,b,e,ey,eb,l⟩
 .subst ey;obtain⟨z,hd,vs,rel,dd⟩:=zMZ I.hok e;obtain⟨w',hw,rw'⟩:=RelO.some_of (v:=v) (o:=valueAt vs k) (by rw[l];exact rel.val k);exact wpAny_getItem_of (zJn ry) dd.mapOf hw (h w' _ (I.tok _) rw')
 .subst ey;cases ry;obtain⟨z,hd,xs,rel,dd⟩:=zMR I.hok e;obtain⟨w',hw,rw'⟩:=RelO.some_of (v:=v) (by rw[l];exact rel.val k);obtain⟨p,hp,hp2⟩:=x9.mp hw;refine wpAny_getItem_heap (tupleKind_room_in1 hu) (zHj I.hok eb) dd hp ?_;rw[hp2];exact h w' _ (I.tok _) rw'
theorem zPY (hu:A.units+1 < cLine)(I:Inv X pins B H s)(g:DGet H a y o)(ry:RelV y u)(h:∀ s',Inv X pins B H s'->Q (.bool (!o.isSome)) s') :
  wpAny (model X.prog X.w) A (compareOp .NotIn u (.ref a)) Q E s:=by
 rcases g with ⟨kvs,k,e,ey,l⟩ | ⟨kvs,k,b,e,ey,eb,l⟩
 .subst ey;obtain⟨z,hd,vs,rel,dd⟩:=zMZ I.hok e;refine wpAny_notIn_of (zJn ry) hd dd.mapOf ?_;rw[<- (rel.val k).isSome_eq,<- l];exact h _ (I.tok _)
 .subst ey;cases (show u=Value.ref b from ry);obtain⟨z,hd,xs,rel,dd⟩:=zMR I.hok e;refine wpAny_notIn_heap (tupleKind_room_in1 hu) (zHj I.hok eb) hd dd ?_;have q:=(rel.val k).isSome_eq;rw[Option.isSome_map] at q;rw[<- q,<- l];exact h _ (I.tok _)
theorem zKo (hu:A.units+1 < cLine)(I:Inv X pins B H s)(g:DPut H a y v H')(ry:RelV y u)(rv:RelV v r)(h:∀ s',Inv X pins B H' s'->Q () s') :
  wpAny (model X.prog X.w) A (setItem (.ref a) u r) Q E s:=by
 rcases g with ⟨kvs,k,e,ey,l,eH⟩ | ⟨kvs,k,b,e,ey,eb,l,eH⟩
 .subst ey eH;obtain⟨z,hd,vs,rel,dd⟩:=zR4 I.hok e;have hz:vs.length<=sizeLine:=by rw[<- rel.length];exact z
  have hl:(putK kvs k v).length<=sizeLine:=by have:=zD5 kvs k v;omega
  refine wpAny_setItem_pairs (hsz:=hz) (zJn ry) dd λh' dd' hs=>h _ ?_
  have he:∃ q,h'.get? a=some q:=let ⟨q,_,_,hq,_⟩:=dd';⟨q,hq⟩
  exact zHA I (by rw[e];exact True.intro) hs he (zNW hl hd (rel.put k rv) dd')
 .subst ey eH;cases (show u=Value.ref b from ry);obtain⟨z,hd,xs,rel,dd⟩:=zS4 I.hok e;have hz:xs.length<=sizeLine:=by rw[<- Paired.length rel];exact z
  refine wpAny_setItem_heap (hsz:=hz) (tupleKind_room_in1 hu) (zHj I.hok eb) dd λh' dd' hs=>h _ ?_
  obtain⟨q,es,ep,hq,h2,h3,h4,_,h5⟩:=dd';refine zHA I (by rw[e];exact True.intro) hs ⟨q,hq⟩ ⟨(by have:=zD5 kvs k v;omega),hd,_,(rel.put k eb rv).keeps λc ys ec=>?_,q,es,ep,hq,h2,h3,h4,h5⟩;rw[zAN (zSa ec e (λz=>nomatch z))];exact ec
end
section
variable {X:Cx}{pins:List (Addr×Obj)}{B:St}{H:Hp}{s:Shared}{a:Addr}{kvs:List (Key×V)}{k:Key}{u:Value}{A:Around}{E:Value->Shared->Prop}
theorem zS5 (I:Inv X pins B H s)(e:H a=some (.dK kvs))(ry:RelV (kV k) u)(l:valV kvs k=some v)(hm:more=[]\/∃ x,more=[x])
  (h:∀ w' s',Inv X pins B (upd H a (.dK (zGG kvs k))) s'->RelV v w'->Q w' s'):wpAny (model X.prog X.w) A (call (.builtin "dict.pop") (.ref a::u::more)) Q E s:=by
 obtain⟨z,hd,vs,rel,dd⟩:=zR4 I.hok e;obtain⟨w',hw,rw'⟩:=RelO.some_of (v:=v) (o:=valueAt vs k) (by rw[<- l];exact rel.val k);have hp:(keyPart u).isSome=true:=by
  cases k with
  | inl i=>obtain⟨t,q⟩:=ry;subst q;rfl
  | inr x=>obtain⟨t,q⟩:=(show ∃ t,u=Value.str x t from ry);subst q;rfl
 have ha:argsOk "dict.pop" ⟨.ref a::u::more,[]⟩:=by
  rcases hm with q | ⟨x,q⟩
  .subst q;exact PySem.F.args_dict_pop_2 _ _
  .subst q;exact PySem.F.args_dict_pop_3 _ _ _
 refine call_meetsIn PySem.F.slot_dict_pop dd.typeIs PySem.F.entry_dict_pop ha (meets_dict_pop_there (zBO X.prog X.w) a (zJn ry) more hm hp)
  ⟨vs,w',dd,by rw[<- rel.length];exact z,hw,λh' dd' hs=>h w' _ ?_ rw'⟩
 exact zHA I (by rw[e];exact True.intro) hs (let ⟨q,_,_,hq,_⟩:=dd';⟨q,hq⟩) (zNW (le_trans (zMV kvs k) z) hd (rel.drop k) dd')
end
def NoSl (i:Expr):Prop:=∀ ov iv,subscripted i false ov iv=operate [ov,iv] (getItem ov iv)
theorem zNh {id:String}
  (hl:typeLookup (.type T) "__getitem__"=pure (some (.builtin id))) (hs:NoSl slice)
  (h:wpAny (model prog w) A (eval value env) (λo O3=>wpAny (model prog w) A (eval slice env) (λi O9=>O9.TypeIs o T/\wpAny (model prog w) A (getItem o i) Q E O9) E O3) E s) :
  wpAny (model prog w) A (eval (.Subscript value slice pos) env) Q E s:=by
 refine Subscript_ (wpAny_mono h (λo O3 O8=>wpAny_mono O8 (λi O9 Y4=>?_) λ_ _ x=>x) λ_ _ x=>x);obtain⟨hT,Y4⟩:=Y4;refine qQ (qQ (wpAny_specialOf hT hl ?_));have fin:wpAny (model prog w) A (subscripted slice false o i) (λr Y2=>wpAny (model prog w) A (letTemporaryGo value o r>>=λ_=>pure r) Q E Y2) E O9:=by
  rw[hs o i];exact wpAny_operating (wpAny_mono Y4 (λr Y2 Y5=>qQ (wpAny_letTemporaryGo (q9 Y5))) λ_ _ x=>x)
 first
  | exact q9 (qQ fin)
  | exact qQ _
  | exact qQ fin
theorem zG8 {X:Cx}{pins:List (Addr×Obj)}{B:St}{H:Hp}{s:Shared}{a:Addr}{y:V}{o:Option V}(I:Inv X pins B H s)(g:DGet H a y o):s.TypeIs (.ref a) "dict":=by
 rcases g with ⟨kvs,k,e,_,_⟩ | ⟨kvs,k,b,e,_,_,_⟩
 .obtain ⟨_,_,vs,_,dd⟩:=zMZ I.hok e;exact dd.typeIs
 .obtain ⟨_,_,xs,_,dd⟩:=zMR I.hok e;exact dd.typeIs
def zSO (td ty:TE):TE:=λB H Q=>td B H λx H1=>ty B H1 λy H2=>∃ a v,x=.ref a/\DGet H2 a y (some v)/\Q v H2
def zSS (td ty tv:TE):TS:=λD B H=>tv B H λv H1=>td B H1 λx H2=>ty B H2 λy H3=>∃ a H4,x=.ref a/\DPut H3 a y v H4/\D.nx B H4
section
variable {X:Cx}{o i e value:Expr}{pos pos' tpos:Pos}{td ty tv:TE}
theorem zN1 (hu:X.A.units+1 < cLine)(ho:PE X o td)(hi:PE X i ty)(hs:NoSl i):PE X (.Subscript o i pos) (zSO td ty):=by
 intro pins s B H Q I h;refine zNh PySem.F.slot_dict_getitem.lookup hs (thn (ho pins s B H _ I h) λu s1 ⟨x,H1,I1,rx,q1⟩=>thn (hi pins s1 B H1 _ I1 q1) λiv s2 zz84=>?_);obtain⟨y,H2,I2,ry,a,v,ex,g,q2⟩:=zz84;subst ex;obtain rfl:=rx;exact⟨zG8 I2 g,zKp hu I2 g ry λw' s3 I3 rw'=>⟨v,H2,I3,rw',q2⟩⟩
theorem zNu (hu:X.A.units+1 < cLine)(ho:PE X o td)(hi:PE X i ty)(hv:PE X value tv)(hs:swapsWith value (some (.Subscript o i pos')) pos.line X.env=pure false) :
  PS X (.Assign [.Subscript o i pos'] value pos) (zSS td ty tv):=by
 intro pins s B H D I h;refine wpAny_Assign_Subscript (thn (hv pins s B H _ I h) λr s1 ⟨v,H1,I1,rv,q1⟩=>thn (ho pins s1 B H1 _ I1 q1) λu s2 ⟨x,H2,I2,rx,q2⟩=>thn (hi pins s2 B H2 _ I2 q2) λiv s3 zz85=>?_) hs;obtain⟨y,H3,I3,ry,a,H4,ex,g,q3⟩:=zz85;subst ex;obtain rfl:=rx;exact zKo hu I3 g ry rv λs4 I4=>⟨B,H4,I4,q3⟩
end
theorem zMa (h:Heap)(hb:sysModules < h.objs.size):zBz P w H (h.push { cls:=.type "dict",data:=.dict #[] }) h.objs.size (.dK []) :=
 ⟨zero_le _,beq_eq_false_iff_ne.mpr (Ne.symm (ne_of_lt hb)),[],.nil,Heap.DictOf.new h⟩
def zPz:TE:=λ_ H Q=>∀ p,H p=none->Q (.ref p) (upd H p (.dK []))
section
variable {X:Cx}{pos:Pos}
theorem zLP:PE X (.Dict [] [] pos) zPz:=λpins s B H Q I h =>
 wpAny_Dict_empty ⟨.ref s.heap.objs.size,_,I.laid (λ_ _ q=>get?_push_of_some _ q) (le_refl _) (zMa s.heap I.big),rfl,h _ (I.hok.fresh (le_refl _))⟩
end
end L2
end
section
namespace DL
open PySem Spec PyProof.Rows L2
noncomputable def posI (k:Int):List Int->Option Nat
 | []=>none
 | x::r=>if x=k then some 0 else (posI k r).map (·+1)
theorem zE8 :∀ {is:List Int} {its:List Value},Vals (is.map V.int) its->W.kf_ints its=true/\W.kf_at k its=posI k is
 | [],its,h=>by cases h;exact⟨rfl,rfl⟩
 | i::is,its,h=>by
  cases h with
  | cons r t =>
   obtain⟨u,rfl⟩:=r;obtain⟨h1,h2⟩:=zE8 (k:=k) t;refine⟨h1,?_⟩;unfold W.kf_at posI;rw[h2];by_cases q:i=k
   .have:isInt k (.int i u)=true:=by unfold isInt;simp[q]
    rw[this,if_pos q];rfl
   .have:isInt k (.int i u)=false:=by unfold isInt;simp[q]
    rw[this,if_neg q];cases posI k is<;>rfl
theorem Vals.erase:∀ {xs:List V} {us:List Value} (j:Nat),Vals xs us->Vals (xs.eraseIdx j) (us.eraseIdx j)
 | [],_,_,h=>by cases h;exact .nil
 | _::_,_,0,h=>by cases h with | cons _ t=>exact t
 | _::_,_,j+1,h=>by cases h with | cons r t=>exact .cons r (Vals.erase j t)
section
variable {X:Cx}
def zI6:V->List V->Hp->VK->Prop:=λx vs H Q=>∃ l is k j,x=.ref l/\vs=[.int k]/\H l=some (.lst (is.map V.int))/\posI k is=some j/\Q .non (upd H l (.lst ((is.map V.int).eraseIdx j)))
theorem zJX:MtM X "list.remove" zI6:=by
 intro pins s B H x vs v us Q I rx rv h;obtain⟨l,is,k,j,rfl,rfl,hH,hj,q⟩:=h;cases rx;obtain⟨u,rfl,ru⟩:=rv.one;obtain⟨t,rfl⟩:=ru;obtain⟨z,its,n,r,hl,e⟩:=I.lstM hH;obtain⟨i1,i2⟩:=zE8 r;rw[hj] at i2;obtain⟨a,b,c⟩:=W.kf_at_spec i2;refine call_meets F.slot_list_remove ⟨_,e,rfl⟩ F.entry_list_remove (F.args_list_remove_2 _ _)
  (MeetsSeq.list_remove l its.toArray n (.int k t) (isInt k) (λy hy=>W.kf_eq i1 y (by simpa using hy)) j (by simpa using a) (by simpa using b) (λi hi hlt=>by simpa using c i _ hlt) (by grind)) ⟨e,?_⟩
 refine⟨.non,_,I.lset hH e (by simp) (Vals.erase j r) ?_,rfl,q⟩;exact le_trans (zGA _ _) z
def zQC:V->List V->Hp->VK->Prop:=λx vs H Q=>∃ l is k j,x=.ref l/\vs=[.int k]/\H l=some (.lst (is.map V.int))/\posI k is=some j/\Q (.int j) H
theorem zLZ:MtM X "list.index" zQC:=by
 intro pins s B H x vs v us Q I rx rv h;obtain⟨l,is,k,j,rfl,rfl,hH,hj,q⟩:=h;cases rx;obtain⟨u,rfl,ru⟩:=rv.one;obtain⟨t,rfl⟩:=ru;obtain⟨z,its,n,r,hl,e⟩:=I.lstM hH;obtain⟨i1,i2⟩:=zE8 r;rw[hj] at i2;obtain⟨a,b,c⟩:=W.kf_at_spec i2;rw[sizeLine_eq] at z;refine call_meets F.slot_list_index ⟨_,e,rfl⟩ F.entry_list_index (F.args_list_index_2 _ _)
  (MeetsSeq.list_index l its.toArray n (.int k t) (isInt k) (λy hy=>W.kf_eq i1 y (by simpa using hy)) j (by simpa using a) (by omega) (by simpa using b) (λi hi hlt=>by simpa using c i _ hlt)) ⟨e,?_⟩
 exact⟨.int j,H,I.tok _,⟨_,rfl⟩,q⟩
def zSV:V->List V->Hp->VK->Prop:=λx vs H Q=>∃ a kvs k v,x=.ref a/\vs=[kV k]/\H a=some (.dK kvs)/\valV kvs k=some v/\Q v (upd H a (.dK (zGG kvs k)))
theorem zOL:MtM X "dict.pop" zSV:=by
 intro pins s B H x vs v us Q I rx rv h;obtain⟨a,kvs,k,w,rfl,rfl,hH,hk,q⟩:=h;cases rx;obtain⟨u,rfl,ru⟩:=rv.one;exact zS5 I hH ru hk (.inl rfl) λw' s' I' r'=>⟨w,_,I',r',q⟩
end
theorem zEF (e:h.get? b=some o):zBz P w H h b (.frz o anyU):=⟨e,True.intro,⟨o,e⟩,λ_ _ _ _=>True.intro⟩
theorem zNo (hS:∀ b∈S,∃ o,H b=some (.frz o anyU))(nf:∀ b∈S,b∉fs)(hok:HOk P w H h)(un:Un fs [] (hide H S) H2 h h')(hok2:HOk P w H2 h') :
  ∃ H':Hp,(∀ b∈S,H' b=H b)/\(∀ b,b∉S->H' b=H2 b)/\Same H2 H'/\(∀ b∈S,H2 b=none)/\Un fs [] H H' h h'/\HOk P w H' h':=by
 have there:∀ {b:Addr},b∈S->∃ o,H b=some (.frz o anyU)/\h'.get? b=some o/\H2 b=none:=λ{b} z=>by
  obtain⟨o,e⟩:=hS b z;obtain⟨e1,_⟩:=hok b _ e;exact⟨o,e,un.keep b o e1 (zCT z) (nf b z) (by simp),un.free b o e1 (zCT z) (by simp)⟩
 have nS:∀ {b:Addr} {u:HO},H2 b=some u->b∉S:=λ{b u} e z=>by
  obtain⟨_,_,_,q⟩:=there z;grind
 have nN:∀ {b:Addr},H b=none->b∉S:=λ{b} e z=>by
  obtain⟨_,q,_⟩:=there z;rw[q] at e;cases e
 have hid:∀ {b:Addr},b∉S->hide H S b=H b:=λz=>zAT z
 obtain⟨H',hin,hout⟩:∃ H':Hp,(∀ b∈S,H' b=H b)/\(∀ b,b∉S->H' b=H2 b):=⟨λb=>if b∈S then H b else H2 b,λb z=>if_pos z,λb z=>if_neg z⟩;have sm:Same H2 H':=λb u e=>by rw[hout b (nS e)];exact e
 refine⟨H',hin,hout,sm,λb z=>(there z).choose_spec.2.2,⟨λb o e n=>un.keep b o e (by rw[hid (nN n)];exact n),λb o e n=>un.slot b o e (by rw[hid (nN n)];exact n),λb o e n hx=>?_,un.there,λb xs e=>?_,λb o u e=>?_,λb q e=>?_⟩,λb u e=>?_⟩
 .rw [hout b (nN n)];exact un.free b o e (by rw[hid (nN n)];exact n) hx
 .have z:b∉S:=λz=>by obtain⟨_,q,_⟩:=there z;rw[q] at e;cases e
  rw[hout b z];exact un.tups b xs (by rw[hid z];exact e)
 .by_cases z:b∈S
  .rw [hin b z];exact e
  .rw [hout b z];exact un.frzs b o u (by rw[hid z];exact e)
 .have z:b∉S:=λz=>by obtain⟨_,q,_⟩:=there z;rw[q] at e;cases e
  rw[hout b z];exact un.tbls b q (by rw[hid z];exact e)
 .by_cases z:b∈S
  .obtain ⟨o,q,g,_⟩:=there z;rw[hin b z,q] at e;cases e;exact zEF g
  .rw [hout b z] at e;exact(hok2 b u e).stay (λ_ _ _ q=>q) (λ_ q=>sm _ _ q) (λ_ _ q=>sm _ _ q) λ_ _ _ q _=>sm _ _ q
theorem zLo (hS:∀ b∈S,∃ o v,H b=some (.frz o anyU)/\o.data=.cell v)(hok:HOk P w H h):HOk P w (hide H S) h:=λb u e=>by
 obtain⟨nb,e1⟩:=zA9 e;have keep:∀ {c:Addr} {v:HO},H c=some v->(∀ o,v≠.frz o anyU)->hide H S c=some v:=λ{c v} q n=>by
  rw[zAT λz=>?_]
  .exact q
  .obtain ⟨o,_,q2,_⟩:=hS c z;grind
 refine(hok b u e1).stay (λ_ _ _ q=>q) (λc q=>keep q λo z=>nomatch z) (λc xs q=>keep q λo z=>nomatch z) λc ob v q zz86=>?_
 rw[zAT λz=>?_]
 .exact q
 .obtain ⟨o,cv,q2,d2⟩:=hS c z;rw[q] at q2;cases q2;grind
theorem zBl.get:∀ {H:Hp} {cl:List (Str×Addr)} {vs:List V},zBl H cl vs->∀ {i:Nat} {v:V},vs[i]?=some v->∃ p o u,cl[i]?=some p/\H p.2=some (.frz o anyU)/\o.data=.cell (some u)/\RelV v u
 | _,_,_,.nil,i,v,e=>by simp at e
 | H,_,_,.cons (a:=p) (b:=v0) ⟨o,u,h1,h2,h3⟩ t,i,v,e=>by
  cases i with
  | zero=>simp at e;subst e;exact⟨p,o,u,by simp,h1,h2,h3⟩
  | succ i =>
   obtain⟨p',o',u',e1,e2⟩:=zBl.get (H:=H) t (i:=i) (v:=v) (by simpa using e);exact⟨p',o',u',by simpa using e1,e2⟩
theorem zBl.mem (h:zBl H cl vs):∀ p∈cl,∃ o u,H p.2=some (.frz o anyU)/\o.data=.cell (some u):=by
 induction h with
 | nil=>intro p hp;exact absurd hp (by simp)
 | cons r t ih =>
  intro p hp;rcases mem_cons.mp hp with rfl | hp
  .obtain ⟨o,u,h1,h2,_⟩:=r;exact⟨o,u,h1,h2⟩
  .exact ih p hp
noncomputable def zR5 (P:Program)(w:World)(K:W.Frag)(mg:Str->Option Value)(base:Heap)(N:List Str)(L:LamI)(f c:Addr)(cl:List (Str×Addr))(A:Around)(outer:List Env)(s:Shared)(H:Hp):Cx where
 prog:=P
 w:=w
 K:=K
 mg:=mg
 base:=base
 A:=A.deeper (W.envX L.qual L.scope s.heap.objs.size f (.ref c) cl)
 N:=N
 s0:=s
 Y7:=H
 env:=W.envX L.qual L.scope s.heap.objs.size f (.ref c) cl
 outer:=outer
 stack:=W.envX L.qual L.scope s.heap.objs.size f (.ref c) cl::outer
 ex:=[]
 calm:=true
 fn:=λ_=>false
 pn:=[]
 xe:=λ_ _=>False
structure zHN (x:Str)(ys:List Str)(L:LamI):Prop where
 kind:L.scope.kind=.function
 co:L.scope.isCoroutine=false
 gen:L.scope.isGenerator=false
 nd:(x::ys).Nodup
 par:L.scope.names.lookup x=some .local
 fr:∀ y∈ys,L.scope.names.lookup y=some .free
 all:∀ y,L.scope.names.lookup y=some .free->y∈ys
 nocell:∀ y∈L.scope.names,y.2≠.cell
 bind:∀ cl pm c ctv u,bindArgs (W.kla_fn "<lambda>" L.qual L.params L.body L.scope cl pm c ctv) ⟨[u],[]⟩=pure [(x,u)]
theorem zF7 {ys:List Str}:∀ {cl:List (Str×Addr)},cl.map (·.1)=ys->ys.Nodup->∀ {i:Nat} {p:Str×Addr},cl[i]?=some p->cl.lookup p.1=some p.2/\ys[i]?=some p.1:=λ{cl} h nd {i p} e=>by
 refine⟨?_,by rw[<- h,getElem?_map,e];rfl⟩;subst h
 induction cl generalizing i with
 | nil=>simp at e
 | cons q cl ih =>
  rw[map_cons,nodup_cons] at nd;cases i with
  | zero=>simp at e;subst e;rw[lookup_cons,beq_self_eq_true]
  | succ i =>
   have e':cl[i]?=some p:=by simpa using e
   rw[lookup_cons,beq_eq_false_iff_ne.mpr λz=>nd.1 (by rw[<- z];exact mem_map.mpr ⟨p,mem_of_getElem? e',rfl⟩)];exact ih e' nd.2
theorem zOY {P:Program}{w:World}{K:W.Frag}{mg:Str->Option Value}{base:Heap}{x:Str}{ys:List Str}{L:LamI}{f c:Addr}{cl:List (Str×Addr)}{A:Around}{outer:List Env}{s:Shared}{H:Hp}{u:Value}{v:V}{vs:List V}{O8:Heap}
  (S:zHN x ys L) (hd:A.handled=none) (hdp:A.depth+1+Builtin.pylongFrames < recursionLimit) (e0:Env0 P w K mg base A outer s H) (r:RelV v u) (hy:cl.map (·.1)=ys) (hnd:(cl.map (·.2)).Nodup) (hc:zBl H cl vs)
  (hns:O8.Ns s.heap.objs.size (λy=>([(x,u)]:List (Str×Value)).reverse.lookup y)) (hsb:Heap.SameBut s.heap.objs.size (s.heap.push { cls:=.type "frame",data:=.dict #[] }) O8) (tk:Nat) :
  Inv (zR5 P w K mg base (x::ys) L f c cl A outer s (hide H (cl.map (·.2)))) [] (some v::vs.map some) (hide H (cl.map (·.2))) { s with heap:=O8,toks:=tk }:=by
 have hk:∀ b o,s.heap.get? b=some o->O8.get? b=some o:=λb o e=>hsb.extBut b o (ne_of_lt (lt_size e)) (get?_push_of_some _ e)
 have hS:∀ b∈cl.map (·.2),∃ o v,H b=some (.frz o anyU)/\o.data=.cell v:=λb z=>by
  obtain⟨p,hp,rfl⟩:=mem_map.mp z;obtain⟨o,u,h1,h2⟩:=hc.mem p hp;exact⟨o,_,h1,h2⟩
 have hok:=zLo hS e0.hok;have none_of:∀ {b:Addr},H b=none->hide H (cl.map (·.2)) b=none:=λ{b} q=>by
  by_cases z:b∈cl.map (·.2)
  .exact zCT z
  .rw [zAT z];exact q
 have lk:∀ {y:Str} {c':Addr},cl.lookup y=some c'->(y,c')∈cl:=λe=>PySem.mem_of_lookup e
 have cell:∀ {y:Str} {c':Addr},(y,c')∈cl->∃ cv,O8.IsCell c' cv:=λ{y c'} m=>by
  obtain⟨o,u,h1,h2⟩:=hc.mem _ m;obtain⟨e1,_⟩:=e0.hok _ _ h1;exact⟨_,o,hk _ _ e1,h2⟩
 have nodupY:ys.Nodup:=(nodup_cons.mp S.nd).2;have nx:x∉ys:=(nodup_cons.mp S.nd).1;have noA:∀ b:Addr,b∉([]:List Addr):=λb z=>absurd z (by simp)
 have lv:vs.length=cl.length:=(Paired.length hc).symm;refine⟨⟨e0.mod,S.kind,rfl,rfl,le_refl _,λy z c' h1 h2=>?_,λy hy'=>?_,λy c' q _=>(by cases q),λ_=>hd,Around.frames_deeper e0.frames,.inr ⟨rfl,rfl⟩,λb z=>absurd z (noA b),λb o e=>⟨(e0.bs b o e).1,none_of (e0.bs b o e).2⟩,e0.bsz,λb _ _=>noA b,λb z=>absurd z (noA b),e0.funs,λb z=>none_of (e0.frf b z),⟨hdp,e0.tree,_,_,rfl,S.gen,S.co,rfl,rfl⟩,λy hy' c' P' e=>?_⟩,
  rfl,e0.bare,Un.kept hk,⟨_,hns,λi y v' h1 h2 h3=>?_⟩,λy c' h=>cell (lk h),e0.hok.fresh (le_refl _) |> none_of,λy c' h=>zCT (mem_map.mpr ⟨_,lk h,rfl⟩),λp hp=>absurd (show p∈([]:List (Addr×Obj)) from hp) (by simp),hok.kept hk,?_⟩
 .-- the cells are apart
  have a1:=lk h1;have a2:=lk h2;have key:∀ {l:List (Str×Addr)},(l.map (·.2)).Nodup->∀ {p q:Str×Addr},p∈l->q∈l->p.2=q.2->p=q:=by
   intro l nd
   induction l with
   | nil=>intro p q hp;exact absurd hp (by simp)
   | cons a l ih =>
    grind
  exact congrArg Prod.fst (key hnd a1 a2 rfl)
 .have hy'':L.scope.names.lookup y=some .cell\/L.scope.names.lookup y=some .free:=hy';rcases hy'' with q | q
  .exact absurd rfl (S.nocell _ (PySem.mem_of_lookup q))
  .have m:=S.all y q;rw[<- hy] at m;obtain⟨p,hp,rfl⟩:=mem_map.mp m;obtain⟨i,hi,e⟩:=List.getElem_of_mem hp;exact⟨p.2,(zF7 hy nodupY (i:=i) (p:=p) (by rw[<- e];exact getElem?_eq_getElem hi)).1⟩
 .have q:=e0.tabs y hy' c' P' e;show hide H _ P'=_;rw[zAT λz=>?_]
  .exact q
  .obtain ⟨o,_,q2,_⟩:=hS P' z;rw[q] at q2;cases q2
 .cases i with
  | zero =>
   have e1:x=y:=by
    have h1':(x::ys)[0]?=some y:=h1;simpa using h1'
   have e2:v=v':=by simpa using h2
   subst e1 e2;exact⟨u,r,.inl ⟨S.par,by simp⟩⟩
  | succ i =>
   have e1:ys[i]?=some y:=by
    have h1':(x::ys)[i+1]?=some y:=h1;simpa using h1'
   have e2:vs[i]?=some v':=by
    simp_all
   obtain⟨p,o,uu,g1,g2,g3,g4⟩:=hc.get e2;obtain⟨k1,k2⟩:=zF7 hy nodupY g1;rw[e1] at k2;have ey:y=p.1:=xj k2;subst ey;obtain⟨g5,_⟩:=e0.hok _ _ g2;exact⟨uu,g4,.inr ⟨.inr (S.fr _ (mem_of_getElem? e1)),p.2,k1,o,hk _ _ g5,g3⟩⟩
 .show (some v::vs.map some).length=(x::ys).length;rw[xY,xY,List.length_map,lv,<- hy,List.length_map]
theorem zLk {P:Program}{w:World}{K:W.Frag}{mg:Str->Option Value}{base:Heap}{A:Around}{outer:List Env}{s:Shared}{H:Hp}{Q:VK}{E:XK}{k:Nat}{f:Addr}{L:LamI}{x:Str}{ys:List Str}{v:V}{u:Value}{vs:List V}
  (hr:Room (k+1) A) (e0:Env0 P w K mg base A outer s H) (la:zDn H L f vs) (ey:frN L=ys) (S:zHN x ys L) (rv:RelV v u)
  (body:∀ (c:Addr) (cl:List (Str×Addr)),cl.map (·.1)=ys->zBl H cl vs->(∀ b∈cl.map (·.2),∃ o v,H b=some (.frz o anyU)/\o.data=.cell v)->∃ t:TE,PE (zR5 P w K mg base (x::ys) L f c cl A outer s (hide H (cl.map (·.2)))) L.body t /\
   t (some v::vs.map some) (hide H (cl.map (·.2))) λv' H2=>∀ H',(∀ b∈cl.map (·.2),H' b=H b)->(∀ b,b∉cl.map (·.2)->H' b=H2 b)->Same H2 H'->(∀ b∈cl.map (·.2),H2 b=none)->Q v' H') :
  codeAny (model P w) A (.call (.ref f) ⟨[u],[]⟩) (CR CX0 outer P w H s Q E) s:=by
 obtain⟨cl,pm,c,ctv,oc,u1,h1,h2,h3,h4,h5,h6⟩:=la;rw[ey] at h4;obtain⟨g1,_⟩:=e0.hok _ _ h1;obtain⟨g2,_⟩:=e0.hok _ _ h2;obtain⟨cvs,ct,d1,d2⟩:=h3;have hS:∀ b∈cl.map (·.2),∃ o v,H b=some (.frz o anyU)/\o.data=.cell v:=λb z=>by
  obtain⟨p,hp,rfl⟩:=mem_map.mp z;obtain⟨o,u,q1,q2⟩:=h6.mem p hp;exact⟨o,_,q1,q2⟩
 refine W.kla_callFunE hr.depth g1 rfl S.co S.gen rfl ⟨c,oc,cvs,ct,rfl,g2,d1,d2⟩ ?_;rw[S.bind];have lim:s.heap.NoLimit:=e0.mod.nolimit.keeps λb o e=>(e0.bs b o e).1
 refine q9 (wpAny_newFunctionEnv S.nocell (λy hy=>by rw[mem_singleton.mp hy];exact S.par) (λO8 hns hsb=>⟨lim.fresh _ hsb,?_⟩) S.kind);obtain⟨t,ht,hq⟩:=body c cl h4 h6 hS;have I:=zOY (f:=f) (c:=c) S hr.hd (by have:=hr.dp;show A.depth+1+100 < _;omega) e0 rv h4 h5 h6 hns hsb (s.toks+1);refine W.kla_codeExpr (wpAny_mono (ht [] _ _ _ _ I hq) (λuu s' hs=>?_) λe s' hs=>hs.elim);obtain⟨v',H2,J,rv',q⟩:=hs;obtain⟨H',p1,p2,p3,p4,un,hok'⟩:=zNo (P:=P) (w:=w) (fs:=frs outer) (S:=cl.map (·.2)) (λb z=>let ⟨o,_,q,_⟩:=hS b z;⟨o,q⟩) (λb z z2=>by
  obtain⟨o,_,q,_⟩:=hS b z;rw[e0.frf b z2] at q;cases q) e0.hok J.base J.hok
 exact⟨v',H',J.os,J.bare,un,hok',rv',q H' p1 p2 p3 p4⟩
noncomputable def clos:List (Str×NameKind)->List (Str×Addr)->List (Str×Addr)->Option (List (Str×Addr))
 | [],_,acc=>some acc
 | (x,k)::r,cs,acc=>if k==.free then (match cs.lookup x with
  | some c=>clos r cs ((x,c)::acc)
  | none=>none) else clos r cs acc
theorem zHF :∀ {l:List (Str×NameKind)} {acc:List (Str×Addr)},clos l env.cells acc=some cl ->
  (forIn l acc (λ(x:Str×NameKind) (r:List (Str×Addr))=>match x with
   | (name,kind)=>if (kind==.free)=true then (do let c<-cellOf env name;pure (ForInStep.yield ((name,c)::r))) else pure (ForInStep.yield r)):Sem (List (Str×Addr)))=pure cl
 | [],acc,h=>by
  cases h;simp
 | (x,k)::l,acc,h=>by
  unfold clos at h;rw[forIn_cons];by_cases e:(k==NameKind.free)=true
  .rw [if_pos e] at h;split at h
   .rename_i c ec;have:=zHF (l:=l) h;have ce:cellOf env x=pure c:=by unfold cellOf;rw[ec]
    simp only[e,if_true,ce,pure_bind];exact this
   .cases h
  .rw [if_neg e] at h;have:=zHF (l:=l) h;simp only[e,Bool.false_eq_true,if_false,pure_bind];exact this
theorem zEz (h:clos sc.names env.cells []=some cl):closureFor sc env=pure cl:=by
 unfold closureFor;have:=zHF h;simp only[bind_pure];omega
theorem zFq {a b:Nat}{c:Value}(l:List Value)(h:TriplesOk l):TriplesOk (l++[rawInt a,rawInt b,c]):=by
 fun_induction TriplesOk l with
 | case1=>simp[TriplesOk,rawInt]
 | case2 _ _ _ _ _ rest ih=>simpa [TriplesOk] using ih h
 | case3=>cases h
theorem zIj {pos:Pos}{a b:Nat}{c cv:Value}(l:List Value)(h:TriplesOk l)(e:codeAmong pos (l++[rawInt a,rawInt b,c])=some cv):codeAmong pos l=some cv\/cv=c:=by
 fun_induction TriplesOk l with
 | case1 =>
  simp only[List.nil_append,rawInt,codeAmong] at e
  simp_all
 | case2 line t col u x rest ih =>
  simp only[List.cons_append,codeAmong] at e ⊢;split at e
  .simp_all
  .rename_i z;rw[if_neg z];exact ih h e
 | case3=>cases h
section
variable {X:Cx}{pins:List (Addr×Obj)}{B:St}{H:Hp}{s:Shared}
theorem zLj (I:Inv X pins B H s)
  (hd:defaultsOf params X.env=([],[])) (hcl:clos scope.names X.env.cells []=some cl) (hcode:X.env.code=.ref c) (C:W.CodeHd X.base c P) (hP:H P=some (.tbl (X.env.qual ++ "<lambda>")))
  (h:∀ f c' ctv pm oc u1 H1 s',Same H H1->H f=none->H1 f=some (.frz (W.kla_obj "<lambda>" (X.env.qual ++ "<lambda>") params body scope cl pm c' ctv) anyU)->H1 c'=some (.frz oc u1)->zK3 oc (X.env.qual ++ "<lambda>")->Inv X pins B H1 s'->Q (.ref f) s') :
  wpAny (model X.prog X.w) X.A (eval (.Lambda params body scope pos) X.env) Q E s:=by
 refine W.kla_eval hd ?_;have hg:s.heap.Ns mainGlobals X.mg:=I.ok.mod.glob.keeps I.bk;obtain⟨ps,e1,t1,cs⟩:=I.hok P _ hP;have C':=C.keeps I.bk;have hgP:mainGlobals≠P:=λz=>by
  obtain⟨o,es,ep,e,d,_⟩:=hg;rw[z,e1] at e;cases e;cases d
 obtain⟨bm,ob,b1,b2,b3,b4,b5,b6⟩:=I.ok.mod.bm;have b3':=I.bk _ _ b3;have hbm:bm≠mainGlobals:=λz=>by
  obtain⟨o,es,ep,e,d,_⟩:=hg;rw[<- z,b3'] at e;cases e;rw[b6] at d;cases d
 have hbP:bm≠P:=λz=>by
  rw[z,e1] at b3';cases b3';cases b4
 have hb:s.heap.BuiltinsAt X.mg P:=⟨bm,ob,b1,b2,hbm,hbP,b3',b4,b5,b6⟩;cases e:codeAmong pos ps.toList with
 | none =>
  refine W.kla_makeFunction (zEz hcl) I.ok.glob hg hcode C' e1 t1 e hgP hb λc' ctv h' tk hx hge hlt hrec htb=>?_
  obtain⟨c2,oc,vs,t,q1,q2,q3,q4⟩:=hrec;cases q1;have szh:s.heap.objs.size<=h'.objs.size:=le_trans hge (Nat.le_of_lt hlt);have nc:H c'=none:=I.hok.fresh hge;have nf:H h'.objs.size=none:=I.hok.fresh szh;have ncf:c'≠h'.objs.size:=ne_of_lt hlt;obtain⟨fo,efo⟩:∃ fo:Obj,fo=W.kla_obj "<lambda>" (X.env.qual ++ "<lambda>") params body scope cl ((X.mg "__name__").getD .none) c' ctv:=⟨_,rfl⟩;obtain⟨H1,eH⟩:∃ H1:Hp,H1=upd (upd H c' (.frz oc anyU)) h'.objs.size (.frz fo anyU):=⟨_,rfl⟩;have sm:Same H H1:=λb o q=>by
   rw[eH,zAN (zAy q nf),zAN (zAy q nc)];exact q
  have at1:H1 h'.objs.size=some (.frz fo anyU):=by rw[eH];exact zAX
  have at2:H1 c'=some (.frz oc anyU):=by rw[eH,zAN ncf];exact zAX
  have oth:∀ {b:Addr},b≠c'->b≠h'.objs.size->H1 b=H b:=λ{b} z1 z2=>by rw[eH,zAN z2,zAN z1]
  have kp:∀ b o,b≠P->s.heap.get? b=some o->(h'.push fo).get? b=some o:=λb o z q=>get?_push_of_some _ (hx b o z q)
  have lt:∀ {b:Addr} {o:Obj},s.heap.get? b=some o->b≠c'/\b≠h'.objs.size:=λ{b o} q=>⟨ne_of_lt (xQ (lt_size q) hge),ne_of_lt (xQ (lt_size q) szh)⟩
  have nP:∀ {b:Addr},H b=none->b≠P:=λ{b} q z=>by rw[z,hP] at q;cases q
  have un:Un X.fs [] H H1 s.heap (h'.push fo):=⟨λb o q n _ _=>kp b o (nP n) q,λb o q n _ _=>⟨o.slots,kp b o (nP n) q⟩,λb o q n _=>by
    obtain⟨z1,z2⟩:=lt q;rw[oth z1 z2];exact n,λb o q _=>by
    by_cases z:b=P
    .subst z;exact⟨_,get?_push_of_some _ htb⟩
    .exact ⟨o,kp b o z q⟩,λb xs q=>sm _ _ q,λb o u q=>sm _ _ q,λb q' q=>sm _ _ q⟩
  have hok:HOk X.prog X.w H1 (h'.push fo):=λb u q=>by
   by_cases z1:b=h'.objs.size
   .subst z1;rw[at1] at q;cases q;exact zEF (get?_push_size _ (by rw[efo];rfl))
   .by_cases z2:b=c'
    .subst z2;rw[at2] at q;cases q;exact zEF (get?_push_of_some _ q2)
    .rw [oth z2 z1] at q;by_cases z3:b=P
     .subst z3;rw[hP] at q;cases q;refine⟨_,get?_push_of_some _ htb,?_,λpos' cv z=>?_⟩
      .rw [Array.toList_append];exact zFq _ t1
      .rw [Array.toList_append] at z;rcases zIj _ t1 z with z | z
       .obtain ⟨c3,oc3,u3,g1,g2,g3⟩:=cs pos' cv z;exact⟨c3,oc3,u3,g1,sm _ _ g2,g3⟩
       .exact ⟨c',oc,anyU,z,at2,vs,t,q3,q4⟩
     .refine (I.hok b u q).stay (λd v hd w'=>kp d v ?_ w') (λd w'=>sm _ _ w') (λd xs w'=>sm _ _ w') λd o' u' w' _=>sm _ _ w'
      grind
  have I1:=I.un (t':=tk) un hok;rw[efo] at I1 at1;exact h _ c' ctv _ oc anyU H1 _ sm nf at1 at2 ⟨vs,t,q3,q4⟩ I1
 | some cv =>
  obtain⟨c',oc,u1,rfl,hc',co⟩:=cs pos cv e;refine W.kla_makeFunctionHit (zEz hcl) I.ok.glob hg hcode C' e1 t1 e hb λctv h' tk hk hsz=>?_
  have nf:H h'.objs.size=none:=I.hok.fresh hsz;have I1:=I.laid (a:=h'.objs.size) (o:=.frz (W.kla_obj "<lambda>" (X.env.qual ++ "<lambda>") params body scope cl ((X.mg "__name__").getD .none) c' ctv) anyU) (t':=tk) (λb o q=>get?_push_of_some _ (hk b o q)) hsz (zEF (get?_push_size _ rfl));exact h _ c' ctv _ oc u1 _ _ (zAf nf _) nf zAX (by rw[zAN (zAy hc' nf)];exact hc') co I1
end
end DL
end
section
namespace DL
open PySem Spec PyProof.Rows L2
mutual
noncomputable def noF:D->Bool
 | .lam _ _ _=>false
 | .tup ds=>noFs ds
 | .lst ds=>noFs ds
 | .obj _ _ ds=>noFs ds
 | _=>true
noncomputable def noFs:List D->Bool
 | []=>true
 | d::ds=>noF d&&noFs ds
end
abbrev zPn (H:Hp) (S:List Addr):Prop:=∀ b∈S,∃ o v,H b=some (.frz o anyU)/\o.data=.cell v
section
variable {K:W.Frag}{H:Hp}{S:List Addr}
theorem zCY (hS:zPn H S)(e:H b=some u)(n:∀ o v,u=.frz o anyU->o.data≠.cell v):hide H S b=some u:=by
 rw[zAT λz=>?_]
 .omega
 .obtain ⟨o,v,q1,q2⟩:=hS b z
  simp_all
mutual
theorem Den.hideC (hS:zPn H S):∀ {d:D} {v:V},noF d=true->Den K H d v->Den K (hide H S) d v
 | .non,_,_,h=>by rw[Den] at h ⊢;exact h
 | .bl _,_,_,h=>by rw[Den] at h ⊢;exact h
 | .int _,_,_,h=>by rw[Den] at h ⊢;exact h
 | .str _,_,_,h=>by rw[Den] at h ⊢;exact h
 | .tup ds,_,n,h=>by
  rw[noF] at n;rw[Den] at h ⊢;obtain⟨a,vs,h1,h2,h3⟩:=h;refine⟨a,vs,h1,?_,DenL.hideC hS n h3⟩;rcases h2 with (q | ⟨o,q⟩) | q
  .exact .inl (.inl (zCY hS q λo v z=>nomatch z))
  .exact .inl (.inr ⟨o,zCY hS q λo v z=>nomatch z⟩)
  .exact .inr q
 | .lst ds,_,n,h=>by
  rw[noF] at n;rw[Den] at h ⊢;obtain⟨a,vs,h1,h2,h3⟩:=h;refine⟨a,vs,h1,?_,DenL.hideC hS n h3⟩;rcases h2 with (q | ⟨o,q⟩) | q
  .exact .inl (.inl (zCY hS q λo v z=>nomatch z))
  .exact .inl (.inr ⟨o,zCY hS q λo v z=>nomatch z⟩)
  .exact .inr q
 | .exc c,_,_,h=>by
  rw[Den] at h ⊢;obtain⟨a,o,u,C,h1,h2,h3,⟨vs,h4⟩,h5⟩:=h;exact⟨a,o,u,C,h1,zCY hS h2 (λo' v z d=>by cases z;rw[h4] at d;cases d),h3,⟨vs,h4⟩,h5⟩
 | .dct ks,_,_,h=>by
  rw[Den] at h ⊢;obtain⟨a,kvs,h1,h2,h3⟩:=h;exact⟨a,kvs,h1,zCY hS h2 (λo v z=>nomatch z),h3⟩
 | .lam _ _ _,_,n,_=>by rw[noF] at n;cases n
 | .obj c ns ds,_,n,h=>by
  rw[noF] at n;rw[Den] at h ⊢;obtain⟨a,vs,h1,⟨C,dx,gs,h2,h3⟩,h4⟩:=h;exact⟨a,vs,h1,⟨C,dx,gs,zCY hS h2 (λo v z=>nomatch z),h3⟩,DenL.hideC hS n h4⟩
 | .fn _ x,_,_,h=>by rw[Den] at h ⊢;exact h
theorem DenL.hideC (hS:zPn H S):∀ {ds:List D} {vs:List V},noFs ds=true->DenL K H ds vs->DenL K (hide H S) ds vs
 | [],_,_,h=>by rw[DenL] at h ⊢;exact h
 | d::ds,_,n,h=>by
  rw[noFs,x8] at n;rw[DenL] at h ⊢;obtain⟨v,ws,h1,h2,h3⟩:=h;exact⟨v,ws,h1,Den.hideC hS n.1 h2,DenL.hideC hS n.2 h3⟩
end
end
def zE3 (P:Program)(w:World)(K:W.Frag)(mg:Str->Option Value)(base:Heap)(k:Nat)(L:LamI)(F:List D->Option R):Prop :=
 ∀ (A:Around) (outer:List Env) (s:Shared) (H:Hp) (f:Addr) (vs:List V) (ds:List D) (v:V) (u:Value) (d:D) (r:R) (Q:VK) (E:XK),Room k A->Env0 P w K mg base A outer s H->zDn H L f vs->DenL K H ds vs->RelV v u->Den K H d v->F (d::ds)=some r->r.2≠.dt ->
  (∀ v' H',Same H H'->RV K H H' [] r v'->Q v' H')->codeAny (model P w) A (.call (.ref f) ⟨[u],[]⟩) (CR CX0 outer P w H s Q E) s
theorem zE3.mono {K:W.Frag}(h:zE3 P w K mg base j L F)(e:j<=k):zE3 P w K mg base k L F :=
 λA outer s H f vs ds v u d r Q E hr=>h A outer s H f vs ds v u d r Q E (hr.mono e)
theorem zOQ {K:W.Frag}(S:zHN x ys L)(ey:frN L=ys)
  (hb:∀ Y:Cx,Y.prog=P->Y.w=w->Y.K=K->Y.mg=mg->Y.base=base->Room k Y.A->Y.calm=true->Y.N=x::ys->Y.env.scope=L.scope->Y.xe=(λ_ _=>False)->GE Y L.body G) :
  zE3 P w K mg base (k+1) L (λds=>if ds.length=ys.length+1/\noFs ds=true then G (ds.map λd=>some (d,false)) else none):=by
 intro A outer s H f vs ds v u d r Q E hr e0 la dl rv dd hF hk c;replace hF:(if (d::ds).length=ys.length+1/\noFs (d::ds)=true then G ((d::ds).map λd=>some (d,false)) else none)=some r:=hF;have q:(d::ds).length=ys.length+1/\noFs (d::ds)=true:=Classical.byContradiction λz=>by rw[if_neg z] at hF;cases hF
 rw[if_pos q] at hF;have nf:=q.2;rw[noFs,x8] at nf;refine zLk hr e0 la ey S rv λcc cl hcl hc hS=>⟨_,hb _ rfl rfl rfl rfl rfl (hr.deeper _) rfl rfl rfl rfl,?_⟩
 have e1:=Den.hideC hS nf.1 dd;have e2:=DenL.hideC hS nf.2 dl;refine⟨[],(d::ds).map λd=>some (d,false),r,⟨?_,λa z=>absurd z (by simp),λi d' o z=>?_,λi j d' e' a z1 _ _ _=>?_⟩,hF,λv' H2 s2 r2 H' p1 p2 p3 p4=>?_⟩
 .rw [List.length_map,xY,xY,List.length_map,dl.length]
 .rw [getElem?_map] at z;obtain⟨d2,z1,z2⟩:=x9.mp z;cases z2;cases i with
  | zero =>
   have:d=d':=by simpa using z1
   subst this;exact⟨v,rfl,.of_den (by rw[zC1];exact e1)⟩
  | succ i =>
   have z1':ds[i]?=some d':=by simpa using z1
   obtain⟨v2,g1,g2⟩:=e2.get z1';exact⟨v2,by show (vs.map some)[i]?=_;rw[getElem?_map,g1];rfl,.of_den (by rw[zC1];exact g2)⟩
 .rw [getElem?_map] at z1;obtain⟨d2,_,z2⟩:=x9.mp z1;cases z2
 .have sm:Same H H':=λb o e=>by
   by_cases z:b∈cl.map (·.2)
   .rw [p1 b z];exact e
   .rw [p2 b z];exact s2 b o (by rw[zAT z];exact e)
  refine c v' H' sm ?_;obtain⟨d',kd⟩:=r;cases kd with
  | cl =>
   have z:Den K (hide H2 []) d' v':=r2;show Den K (hide H' []) d' v';rw[zC1] at z ⊢;exact z.mono p3
  | fr =>
   obtain⟨a,ws,es,e1,e2,e3,e4,e5,e6⟩:=r2;have na:a∉cl.map (·.2):=λz=>by rw[p4 a z] at e5;cases e5
   refine⟨a,ws,es,e1,e2,e3,by rw[zAT na] at e4;exact e4,p3 _ _ e5,e6.mono (zAU p3)⟩
  | dt=>exact absurd rfl hk
open Classical in
def lamF (lm:List (LamI×(List D->Option R)))(j:Nat)(L:LamI)(ds:List D):Option R:=match lm[j]? with
 | some (L',F)=>if L'=L then F ds else none
 | none=>none
noncomputable def fnvF (fns:List (Str×(List D->Option R)))(n:Nat)(x:Str)(ds:List D):Option R:=match fns[n]? with
 | some (y,F)=>if y=x then F ds else none
 | none=>none
def zEQ (lm:List (LamI×(List D->Option R)))(fns:List (Str×(List D->Option R)))(i:Nat)(f:Dst->Option R):Dst->Option R:=λO=>match O[i]? with
 | some (some (.fn n y,false))=>(f O).bind λx=>if x.2=.dt then none else (fnvF fns n y [x.1]).bind λr=>if r.2=.dt then none else some r
 | some (some (.lam j L ds,false))=>(f O).bind λx=>if x.2=.dt then none else (lamF lm j L (x.1::ds)).bind λr=>if r.2=.dt then none else some r
 | _=>none
variable {X:Cx}
theorem zL9 (LR:∀ (j:Nat) L F,lm[j]?=some (L,F)->zE3 X.prog X.w X.K X.mg X.base k L F)(FR:∀ x F,(x,F)∈fns->∃ f fd ps,FnOk X.prog X.w X.K X.mg X.base CX0 k f fd ps (spD X.K F)/\X.mg x=some (.ref f)/\W.keepIn X.K (.ref f)=true/\zBb X.K fd ps [])(hr:Room k X.A)(hN:X.N[i]?=some y)(hv:Vis X.env.scope y)(hd:(y==("__debug__":Str))=false)(hcd:(y==("__classdict__":Str))=false)
  (ha:GE X a f) (he:starEach (a::[]) X.env=(false,eval a X.env)::starEach [] X.env) (px:PassesOwn (model X.prog X.w) X.A X.env X.xe:=by assumption):GE X (.Call (.Name y p) [a] [] pos) (zEQ lm fns i f):=by
 intro pins s B H Q I ⟨S,O,z,ds,e,c⟩;unfold zEQ at e;split at e
 .rename_i n x0 q;obtain⟨x,ex,e⟩:=bind_some e;by_cases hx:x.2=.dt
  .rw [if_pos hx] at e;cases e
  rw[if_neg hx] at e;obtain⟨r,er,e⟩:=bind_some e;by_cases hk:r.2=.dt
  .rw [if_pos hk] at e;cases e
  rw[if_neg hk] at e;cases e;obtain⟨v0,q1,q2⟩:=ds.get i _ false q;have q3:=q2.den rfl;rw[Den] at q3;obtain⟨f0,rfl,cn⟩:=q3;unfold fnvF at er;split at er
  .rename_i y' F el;have eL:y'=x0:=Classical.byContradiction λz=>by rw[if_neg z] at er;cases er
   rw[if_pos eL] at er;subst eL;obtain⟨f1,fd,ps,FO,hm,hkp,hb⟩:=FR _ F (mem_of_getElem? el);have hm2:X.mg y'=some (.ref f0):=W.mg_of I.ok.mod.kin I.ok.mod.glob cn;rw[hm] at hm2;cases hm2;refine wpAny_Call_Name_kw (thn (zDb hN hv hd hcd pins s B H (λx H1=>x=.ref f0/\H1=H) I ⟨_,q1,rfl,rfl⟩) λu s1 zz87=>?_);obtain⟨x1,H1,I1,rx,e1,e2⟩:=zz87;subst e1 e2;obtain rfl:u=Value.ref f0:=rx;refine W.callWith_K (h₀:=X.base) I1.ok.mod.kin hkp (thn (zAa ha zA2 he pos pins s1 B _ (λvs H2=>spD X.K F (vs++[]) H2 Q E0) I1 ?_) λus s2 zy158=>by obtain⟨vs,H2,I2,rr,qq⟩:=zy158;exact⟨I2.kIn,zFu FO hr hb .nil zIJ I2 rr qq⟩) he rfl;refine⟨S,O,x,ds,ex,λvx H2 s2 r2=>?_⟩;exact⟨S,[x.1],_,(ds.mono s2).sok,.cons (RV.den (d:=x.1) (k:=x.2) r2 hx) .nil,er,hk,λv H' s3 r3=>c v H' (s2.trans s3) (r3.from s2)⟩
  .cases er
 .rename_i j L dl q;obtain⟨x,ex,e⟩:=bind_some e;by_cases hx:x.2=.dt
  .rw [if_pos hx] at e;cases e
  rw[if_neg hx] at e;obtain⟨r,er,e⟩:=bind_some e;by_cases hk:r.2=.dt
  .rw [if_pos hk] at e;cases e
  rw[if_neg hk] at e;cases e;obtain⟨v0,q1,q2⟩:=ds.get i _ false q;have q3:=q2.den rfl;rw[Den] at q3;obtain⟨f0,vs,rfl,la,dla⟩:=q3;unfold lamF at er;split at er
  .rename_i L' F el;have eL:L'=L:=Classical.byContradiction λz=>by rw[if_neg z] at er;cases er
   rw[if_pos eL] at er;subst eL;have fat:∀ {H1:Hp} {s1:Shared},zDn H1 L' f0 vs->HOk X.prog X.w H1 s1.heap->W.FnAt f0 s1.heap:=λ{H1 s1} la hok=>by
    obtain⟨cl,pm,c',ctv,oc,u1,g1,_⟩:=la;obtain⟨g2,_⟩:=hok _ _ g1;exact⟨_,_,_,_,g2⟩
   refine wpAny_Call_Name_kw (thn (zDb hN hv hd hcd pins s B H (λx H1=>x=.ref f0/\H1=H) I ⟨_,q1,rfl,rfl⟩) λu s1 zz88=>?_);obtain⟨x1,H1,I1,rx,e1,e2⟩:=zz88;subst e1 e2;obtain rfl:u=Value.ref f0:=rx;have arg:gT X.K f B H1 λvx H2=>Same H1 H2/\RV X.K H1 H2 S x vx:=⟨S,O,x,ds,ex,λvx H2 s2 r2=>⟨s2,r2⟩⟩
   refine W.callWith_F (fat (la.mono zAt) I1.hok) (thn (zAa ha zA2 he pos pins s1 B _ (λxs H2=>∃ vx,xs=[vx]/\Same H1 H2/\RV X.K H1 H2 S x vx) I1 (by
    obtain⟨S',O2,r',g1,g2,g3⟩:=arg;exact⟨S',O2,r',g1,g2,λvx H2 s2 r2=>⟨vx,rfl,g3 vx H2 s2 r2⟩⟩)) λus s2 ⟨xs,H2,I2,rvs,vx,exs,sm,rx2⟩=>?_) he
   subst exs;obtain⟨uu,rfl,rvu⟩:=zID rvs;have la2:zDn (hide H2 S) L' f0 vs:=la.mono (zAU sm);refine⟨fat (la2.mono zAt) I2.hok,?_⟩;refine wpAny_call (codeAny_mono (zEG (r:=z) (Q:=Q) (E:=E0) I2.env0 (ds.mono sm).sok hk (λe1=>LR j L' F el _ _ _ _ f0 vs dl vx uu x.1 z _ _ hr e1 la2 (dla.mono (zAU sm)) rvu (RV.den (d:=x.1) (k:=x.2) rx2 hx) er hk λv' H' s3 r3=>⟨r3,s3⟩) λv H' s3 r3=>c v H' (sm.trans s3) (r3.from sm)) λrr s' hq=>?_);cases rr with
   | error e=>exact hq.elim
   | ok fl =>
    cases fl with
    | ret u=>exact I2.after hq
    | next=>exact False.elim hq
    | brk=>exact False.elim hq
    | cont=>exact False.elim hq
  .cases er
 .cases e
end DL
end
section
namespace DL
open PySem Spec PyProof.Rows L2
variable {X:Cx}
noncomputable def fldD (ob:List (Str×Str×Option Bool))(f:Str):D->Option R
 | .obj c ns l=>if (c,f,none)∈ob then ((ns.zip l).lookup f).map λd=>(d,.cl) else none
 | _=>none
theorem zKB {K:W.Frag}{gs:List (Str×V)}:∀ {ns:List Str} {vs:List V} {l:List D},(ns.map λn=>gs.lookup n)=vs.map some->DenL K H l vs->(ns.zip l).lookup f=some d->∃ v,gs.lookup f=some v/\Den K H d v
 | [],_,_,_,_,e=>by simp at e
 | n::ns,vs,[],_,_,e=>by simp at e
 | n::ns,vs,x::l,h,t,e=>by
  rw[DenL] at t;obtain⟨v,us,rfl,t1,t2⟩:=t;simp only[map_cons,List.cons.injEq] at h;rw[List.zip_cons_cons,lookup_cons] at e;by_cases q:(f==n)=true
  .rw [q] at e;cases e;exact⟨v,by rw[eq_of_beq q];exact h.1,t1⟩
  .rw [Bool.not_eq_true] at q;rw[q] at e;exact zKB h.2 t2 e
theorem Rdv.obj {K:W.Frag}(h:Rdv K H S (.obj c ns l) v):Den K (hide H S) (.obj c ns l) v:=by
 rcases h with h | ⟨_,_,_,_,h2,_⟩
 .omega
 .cases h2
theorem zRc (ha:GE X e g)(hb:attributeBase e fl X.env (eval e X.env)=eval e X.env)(ho:∀ c,(c,fl,none)∈ob->∀ C,zB0 X.K c C->Cls X.K C/\zBT X.K C fl):GE X (.Attribute e fl pos) (one g (fldD ob fl)):=by
 refine(zM3 ha hb).imp λB H Q zz89=>?_
 obtain⟨S,O,z,ds,e,c⟩:=zz89;obtain⟨x,ex,e⟩:=bind_some e;unfold fldD at e;split at e
 .rename_i cc ns l hx;by_cases m:(cc,fl,none)∈ob
  .rw [if_pos m] at e;obtain⟨d,e1,e2⟩:=x9.mp e;cases e2;refine⟨S,O,x,ds,ex,λvx H1 s1 r1=>?_⟩;have r2:=r1.rd;rw[hx] at r2;have r3:=r2.obj;obtain⟨a,vs,rfl,⟨C,dx,gs,h1,h2,h3,h4⟩,h5⟩:=r3;obtain⟨v,q1,q2⟩:=zKB h4 h5 e1;obtain⟨o1,o2⟩:=ho cc m C h3;exact⟨a,C,dx,gs,v,rfl,zAt _ _ h1,o1,o2,q1,c v H1 s1 q2⟩
  .rw [if_neg m] at e;cases e
 .cases e
structure OCls (K:W.Frag)(C:Addr):Prop where
 cl:Cls K C
 ha:W.findIn K (.ref C) "__class__"=some (some (.builtin "object.__class__"))
 hm:W.mroIn K C (.type "object")=some true
 hn:W.specialIn K (.builtin "object.__class__") "__get__"=some (some (.builtin "getset_descriptor.__get__"))
 htk:W.takesIn K (.builtin "object.__class__")=some true
def ObOk (K:W.Frag)(mg:Str->Option Value)(p:Str×Str×Option Bool):Prop:=match p.2.2 with
 | none=>∀ C,zB0 K p.1 C->Cls K C/\zBT K C p.2.1
 | some b=>∃ Y,mg p.2.1=some (.ref Y)/\∀ C,zB0 K p.1 C->OCls K C/\W.kitOne K (.ref C) (.ref Y)=some b
end DL
end
section
namespace DL
open PySem Spec PyProof.Rows L2
set_option genSizeOf false in
set_option genInjectivity false in
inductive E where
 | var (i:Nat) | glob (n:Nat) (x:Str) | int (i:Int) | bl (b:Bool) | non 
 | bin (op:Operator) (a b:E) | neg (a:E) | not (a:E) | cmp (op:CmpOp) (a b:E)
 | andl (es:E) | orl (es:E) | ite (c a b:E) | tup (es:E) | lst (es:E) | ix (a i:E) | sl (a lo hi:E)
 | comp1 (n:Nat) (ms:List Nat) (x:Str) (src c elt:E) 
 | lzip (a b:E)
 | it (e:E) | r1 (a:E) | r2 (a b:E) | r3 (a b c:E)
 | call (n:Nat) (f:Str) (es:E) | len (a:E) | abs (a:E) | list (a:E) | max (a b:E) | isi (t:Ty) (a:E) | chn (op op':CmpOp) (a b c:E) | tupl (a:E) | lrev (a:E) | callv (i:Nat) (a:E) | fld (a:E) (f:Str) 
 | nil | cons (e es:E)
set_option genSizeOf false in
set_option genInjectivity false in
inductive S where
 | nil | cons (a b:S) | frz (i:Nat) (rest:S)
 | set (i:Nat) (e:E) | setC (i:Nat) (e:E) | app (i:Nat) (e:E) 
 | ife (c:E) (a b:S) | whl (c:E) (b:S) | for1 (i:Nat) (it:E) (b:S) 
 | ret (e:E) | retOwn (i:Nat) | pass | never | ext (i:Nat) (e:E) | aug (op:Operator) (i:Nat) (e:E) | rse (c:Str) (m:E) 
structure Gm where
 fns:List (Str×(List D->Option R))
 cs:List (Str×D)
 xf:List (Str×(List D->Option Str))
 sub:List (Str×Str×Bool)
 rs:List Str
 lm:List (LamI×(List D->Option R))
 ob:List (Str×Str×Option Bool)
open Classical in
def mulD (i j:Int):Option R:=if IntMulOk i j then some (.int (i*j),.cl) else none
open Classical in
def zO8 (i j:Int):Option R:=if zMl i j then some (.int (i.fdiv j),.cl) else none
def binD (op:Operator)(x y:D):Option R:=match op with
 | .Add=>(match x,y with
  | .int i,.int j=>some (.int (i+j),.cl)
  | .lst xs,.lst ys=>if xs.length+ys.length<=10000 then some (.lst (xs++ys),.fr) else none
  | .tup (x::xs),.tup (y::ys)=>if (x::xs).length+(y::ys).length<=10000 then some (.tup ((x::xs)++(y::ys)),.cl) else none
  | _,_=>none)
 | .Sub=>(match x,y with
  | .int i,.int j=>some (.int (i - j),.cl)
  | _,_=>none)
 | .Mult=>(match x,y with
  | .int i,.int j=>mulD i j
  | .lst xs,.int j=>if 0<=j/\j<=10000/\xs.length*j.toNat<=10000 then some (.lst (List.replicate j.toNat xs).flatten,.fr) else none
  | _,_=>none)
 | .FloorDiv=>(match x,y with
  | .int i,.int j=>zO8 i j
  | _,_=>none)
 | .Mod=>(match x,y with
  | .int i,.int j=>if j=0 then none else some (.int (i.fmod j),.cl)
  | _,_=>none)
 | .Pow=>(match x,y with
  | .int i,.int j=>if 0<=j/\j<=1000000/\i.natAbs < 2^64 then some (.int (i^j.toNat),.cl) else none
  | _,_=>none)
 | _=>none
def cmpD (op:CmpOp)(x y:D):Option R:=match op with
 | .Lt=>(match x,y with
  | .int i,.int j=>some (.bl (decide (i < j)),.cl)
  | _,_=>none)
 | .LtE=>(match x,y with
  | .int i,.int j=>some (.bl (decide (i<=j)),.cl)
  | _,_=>none)
 | .Gt=>(match x,y with
  | .int i,.int j=>some (.bl (decide (j < i)),.cl)
  | _,_=>none)
 | .GtE=>(match x,y with
  | .int i,.int j=>some (.bl (decide (j<=i)),.cl)
  | _,_=>none)
 | .Eq=>eqD id x y
 | .NotEq=>eqD (λb=>!b) x y
 | .Is=>isN id x y
 | .IsNot=>isN (λb=>!b) x y
 | _=>none
noncomputable def zDl (J:Gm)(n:Nat)(x:Str):Dst->Option R:=λ_=>match J.cs[n]? with
 | some (y,d)=>if y=x then some (d,.cl) else none
 | none=>none
noncomputable def fnD (J:Gm)(n:Nat)(x:Str)(g:Dst->Option (List D)):Dst->Option R:=λO=>match J.fns[n]? with
 | some (y,F)=>if y=x then zIi F g O else none
 | none=>none
noncomputable def tg1 (i:Nat):D->Dst->Option Dst:=λd O=>some (O.set i (some (d,false)))
mutual
def evE (J:Gm):E->Dst->Option R
 | .var i=>varD i
 | .glob n x=>zDl J n x
 | .int i=>λ_=>some (.int i,.cl)
 | .bl b=>λ_=>some (.bl b,.cl)
 | .non=>λ_=>some (.non,.cl)
 | .bin op a b=>two (evE J a) (evE J b) (binD op)
 | .neg a=>negD (evE J a)
 | .not a=>notD (evE J a)
 | .cmp op a b=>two (evE J a) (evE J b) (cmpD op)
 | .andl es=>evAnd J es
 | .orl es=>evOr J es
 | .ite c a b=>iteD (evE J c) (evE J a) (evE J b)
 | .tup es=>tupD (evEs J es)
 | .lst es=>lstD (evEs J es)
 | .ix a i=>two (evE J a) (evE J i) ixD
 | .sl a lo hi=>slD (evE J a) (evO J lo) (evO J hi)
 | .call n f es=>fnD J n f (evEs J es)
 | .len a=>one (evE J a) lenD
 | .abs a=>one (evE J a) absD
 | .list a=>one (evE J a) zIX
 | .max a b=>two (evE J a) (evE J b) maxD
 | .isi t a=>one (evE J a) (isiF t)
 | .chn op op' a b c=>chD (cmpD op) (cmpD op') (evE J a) (evE J b) (evE J c)
 | .tupl a=>one (evE J a) zHR
 | .lrev a=>one (evE J a) revD
 | .callv i a=>zEQ J.lm J.fns i (evE J a)
 | .fld a f=>one (evE J a) (fldD J.ob f)
 | .comp1 n ms _ src c e=>zHE ms 1 (evI J src) (tg1 n) (evC J c) (evE J e)
 | .lzip a b=>two (evE J a) (evE J b) zipD
 | .it _=>λ_=>none
 | .r1 _=>λ_=>none
 | .r2 _ _=>λ_=>none
 | .r3 _ _ _=>λ_=>none
 | .nil=>λ_=>none
 | .cons _ _=>λ_=>none
def evI (J:Gm):E->Dst->Option (List D)
 | .it e=>zEA (evE J e)
 | .r1 a=>zGh (evE J a)
 | .r2 a b=>zFw (evE J a) (evE J b)
 | .r3 a b c=>zGg (evE J a) (evE J b) (evE J c)
 | _=>λ_=>none
def evC (J:Gm):E->Dst->Option Bool
 | .nil=>λ_=>some true
 | .cons c _=>asB (evE J c)
 | _=>λ_=>none
def evEs (J:Gm):E->Dst->Option (List D)
 | .nil=>λ_=>some []
 | .cons e es=>zHC (evE J e) (evEs J es)
 | _=>λ_=>none
def evLs (J:Gm):E->Dst->Option (List D)
 | .nil=>λ_=>some []
 | .cons e es=>zR8 (evE J e) (evLs J es)
 | _=>λ_=>none
def evAnd (J:Gm):E->Dst->Option R
 | .cons e es=>(match es with
  | .nil=>evE J e
  | es=>andD (evE J e) (evAnd J es))
 | _=>λ_=>none
def evOr (J:Gm):E->Dst->Option R
 | .cons e es=>(match es with
  | .nil=>evE J e
  | es=>orD (evE J e) (evOr J es))
 | _=>λ_=>none
def evO (J:Gm):E->Dst->Option (Option Int)
 | .cons e _=>zGl (evE J e)
 | _=>λ_=>some none
end
noncomputable def xvS (J:Gm):S->Dst->Option Str:=λ_ _=>none
noncomputable def xvSs (J:Gm):S->Dst->Option Str:=λ_ _=>none
mutual
def evS (J:Gm):S->Dst->Option Out
 | .set i e=>setD i (evE J e)
 | .setC i e=>setD i (evE J e)
 | .app i e=>appD i (evE J e)
 | .ext i e=>extD i (evE J e)
 | .aug op i e=>augD op i (evE J e)
 | .ife c a b=>ifD (asB (evE J c)) (evSs J a) (evSs J b)
 | .whl c b=>zEe (asB (evE J c)) (evSs J b)
 | .for1 i it b=>λO=>(evI J it O).bind λxs=>forD (tg1 i) (evSs J b) xs O
 | .ret e=>retD (evE J e)
 | .retOwn i=>zFH i
 | .pass=>λO=>some (.nx O)
 | .nil=>λ_=>none
 | .cons _ _=>λ_=>none
 | .frz _ _=>λ_=>none
 | .never=>λ_=>none
 | .rse _ _=>λ_=>none
def evSs (J:Gm):S->Dst->Option Out
 | .nil=>λO=>some (.nx O)
 | .cons a b=>seqD (evS J a) (evSs J b)
 | .frz i r=>seqD (frzD i) (evSs J r)
 | _=>λ_=>none
end
noncomputable def visB (sc:Scope)(x:Str):Bool:=match sc.names.lookup x with
 | some .local=>true
 | some .cell=>true
 | some .free=>true
 | _=>false
noncomputable def locB (sc:Scope)(x:Str):Bool:=match sc.names.lookup x with
 | some .local=>true
 | some .cell=>true
 | _=>false
noncomputable def glB (sc:Scope)(x:Str):Bool:=match sc.names.lookup x with
 | some .globalImplicit=>true
 | _=>false
noncomputable def okN (x:Str):Bool:=!(x==("__debug__":Str))&&!(x==("__classdict__":Str))
noncomputable def zAc:Expr->Bool
 | .Starred _ _=>false
 | _=>true
noncomputable def zDD:Expr->Bool
 | .Slice _ _ _ _=>false
 | _=>true
noncomputable def zF3:Expr->Bool
 | .ListComp _ _ _ _=>false
 | .SetComp _ _ _ _=>false
 | .DictComp _ _ _ _ _=>false
 | _=>true
noncomputable def zJT:Expr->Bool
 | .Set _ _ _=>false
 | _=>true
noncomputable def bltB (sc:Scope)(bs:List Str)(x:Str):Bool:=glB sc x&&bs.contains x
noncomputable def opB (op op':Operator):Bool:=decide (op=op')
noncomputable def cmB (op op':CmpOp):Bool:=decide (op=op')
noncomputable def cscB (sc scope:Scope):Bool:=(scope.kind==.function)&&decide ((scope.names.map (·.1)).Nodup)&&scope.names.all λx=>!(x.2==.free)||sc.names.lookup x.1==some .cell||sc.names.lookup x.1==some .free
noncomputable def zLa (scope:Scope)(N:List Str)(ms:List Nat):Bool:=(List.range N.length).all λi=>!(ownB scope (N.getD i noN))||ms.contains i
noncomputable def zQi:Expr->Bool
 | .Name _ _=>true
 | _=>false
noncomputable def zAg (e:Expr)(k:Str->Pos->Bool):Bool:=match e with
 | .Name x0 x1=>k x0 x1
 | _=>false
theorem zAH (h:zAg e k=true):∃ x0 x1,e=.Name x0 x1/\k x0 x1=true:=by
 cases e with
 | Name x0 x1=>exact⟨x0,x1,rfl,h⟩
 | _=>exact nomatch show false=true from h
noncomputable def zCw (e:Expr)(k:Const->Nat->Pos->Bool):Bool:=match e with
 | .Constant x0 x1 x2=>k x0 x1 x2
 | _=>false
theorem zCO (h:zCw e k=true):∃ x0 x1 x2,e=.Constant x0 x1 x2/\k x0 x1 x2=true:=by
 cases e with
 | Constant x0 x1 x2=>exact⟨x0,x1,x2,rfl,h⟩
 | _=>exact nomatch show false=true from h
noncomputable def zJS (e:Expr)(k:Expr->Operator->Expr->Pos->Bool):Bool:=match e with
 | .BinOp x0 x1 x2 x3=>k x0 x1 x2 x3
 | _=>false
theorem zIO (h:zJS e k=true):∃ x0 x1 x2 x3,e=.BinOp x0 x1 x2 x3/\k x0 x1 x2 x3=true:=by
 cases e with
 | BinOp x0 x1 x2 x3=>exact⟨x0,x1,x2,x3,rfl,h⟩
 | _=>exact nomatch show false=true from h
noncomputable def zDL (e:Expr)(k:UnaryOp->Expr->Pos->Bool):Bool:=match e with
 | .UnaryOp x0 x1 x2=>k x0 x1 x2
 | _=>false
theorem zCh (h:zDL e k=true):∃ x0 x1 x2,e=.UnaryOp x0 x1 x2/\k x0 x1 x2=true:=by
 cases e with
 | UnaryOp x0 x1 x2=>exact⟨x0,x1,x2,rfl,h⟩
 | _=>exact nomatch show false=true from h
noncomputable def zDs (e:Expr)(k:BoolOp->List Expr->Pos->Bool):Bool:=match e with
 | .BoolOp x0 x1 x2=>k x0 x1 x2
 | _=>false
theorem zDC (h:zDs e k=true):∃ x0 x1 x2,e=.BoolOp x0 x1 x2/\k x0 x1 x2=true:=by
 cases e with
 | BoolOp x0 x1 x2=>exact⟨x0,x1,x2,rfl,h⟩
 | _=>exact nomatch show false=true from h
noncomputable def zCi (e:Expr)(k:Expr->List CmpOp->List Expr->Pos->Bool):Bool:=match e with
 | .Compare x0 x1 x2 x3=>k x0 x1 x2 x3
 | _=>false
theorem zB2 (h:zCi e k=true):∃ x0 x1 x2 x3,e=.Compare x0 x1 x2 x3/\k x0 x1 x2 x3=true:=by
 cases e with
 | Compare x0 x1 x2 x3=>exact⟨x0,x1,x2,x3,rfl,h⟩
 | _=>exact nomatch show false=true from h
noncomputable def zJN (e:Expr)(k:Expr->Expr->Expr->Pos->Bool):Bool:=match e with
 | .IfExp x0 x1 x2 x3=>k x0 x1 x2 x3
 | _=>false
theorem zIM (h:zJN e k=true):∃ x0 x1 x2 x3,e=.IfExp x0 x1 x2 x3/\k x0 x1 x2 x3=true:=by
 cases e with
 | IfExp x0 x1 x2 x3=>exact⟨x0,x1,x2,x3,rfl,h⟩
 | _=>exact nomatch show false=true from h
noncomputable def zGn (e:Expr)(k:List Expr->Nat->Pos->Bool):Bool:=match e with
 | .Tuple x0 x1 x2=>k x0 x1 x2
 | _=>false
theorem zEk (h:zGn e k=true):∃ x0 x1 x2,e=.Tuple x0 x1 x2/\k x0 x1 x2=true:=by
 cases e with
 | Tuple x0 x1 x2=>exact⟨x0,x1,x2,rfl,h⟩
 | _=>exact nomatch show false=true from h
noncomputable def zJL (e:Expr)(k:List Expr->Pos->Bool):Bool:=match e with
 | .List x0 x1=>k x0 x1
 | _=>false
theorem zF1 (h:zJL e k=true):∃ x0 x1,e=.List x0 x1/\k x0 x1=true:=by
 cases e with
 | List x0 x1=>exact⟨x0,x1,rfl,h⟩
 | _=>exact nomatch show false=true from h
noncomputable def zBL (e:Expr)(k:Expr->Expr->Pos->Bool):Bool:=match e with
 | .Subscript x0 x1 x2=>k x0 x1 x2
 | _=>false
theorem zA3 (h:zBL e k=true):∃ x0 x1 x2,e=.Subscript x0 x1 x2/\k x0 x1 x2=true:=by
 cases e with
 | Subscript x0 x1 x2=>exact⟨x0,x1,x2,rfl,h⟩
 | _=>exact nomatch show false=true from h
noncomputable def zJI (e:Expr)(k:Option Expr->Option Expr->Option Expr->Pos->Bool):Bool:=match e with
 | .Slice x0 x1 x2 x3=>k x0 x1 x2 x3
 | _=>false
theorem zIL (h:zJI e k=true):∃ x0 x1 x2 x3,e=.Slice x0 x1 x2 x3/\k x0 x1 x2 x3=true:=by
 cases e with
 | Slice x0 x1 x2 x3=>exact⟨x0,x1,x2,x3,rfl,h⟩
 | _=>exact nomatch show false=true from h
noncomputable def zAv (e:Expr)(k:Expr->List Expr->List Keyword->Pos->Bool):Bool:=match e with
 | .Call x0 x1 x2 x3=>k x0 x1 x2 x3
 | _=>false
theorem zAL (h:zAv e k=true):∃ x0 x1 x2 x3,e=.Call x0 x1 x2 x3/\k x0 x1 x2 x3=true:=by
 cases e with
 | Call x0 x1 x2 x3=>exact⟨x0,x1,x2,x3,rfl,h⟩
 | _=>exact nomatch show false=true from h
noncomputable def zDV (e:Expr)(k:Expr->List Comprehension->Scope->Pos->Bool):Bool:=match e with
 | .ListComp x0 x1 x2 x3=>k x0 x1 x2 x3
 | _=>false
theorem zCN (h:zDV e k=true):∃ x0 x1 x2 x3,e=.ListComp x0 x1 x2 x3/\k x0 x1 x2 x3=true:=by
 cases e with
 | ListComp x0 x1 x2 x3=>exact⟨x0,x1,x2,x3,rfl,h⟩
 | _=>exact nomatch show false=true from h
noncomputable def zAd (e:Expr)(k:Expr->Str->Pos->Bool):Bool:=match e with
 | .Attribute x0 x1 x2=>k x0 x1 x2
 | _=>false
theorem zAQ (h:zAd e k=true):∃ x0 x1 x2,e=.Attribute x0 x1 x2/\k x0 x1 x2=true:=by
 cases e with
 | Attribute x0 x1 x2=>exact⟨x0,x1,x2,rfl,h⟩
 | _=>exact nomatch show false=true from h
noncomputable def zM8 (e:Expr)(k:List (Option Expr)->List Expr->Pos->Bool):Bool:=match e with
 | .Dict x0 x1 x2=>k x0 x1 x2
 | _=>false
theorem zJO (h:zM8 e k=true):∃ x0 x1 x2,e=.Dict x0 x1 x2/\k x0 x1 x2=true:=by
 cases e with
 | Dict x0 x1 x2=>exact⟨x0,x1,x2,rfl,h⟩
 | _=>exact nomatch show false=true from h
noncomputable def zCQ (e:Stmt)(k:List Expr->Expr->Pos->Bool):Bool:=match e with
 | .Assign x0 x1 x2=>k x0 x1 x2
 | _=>false
theorem zBZ (h:zCQ e k=true):∃ x0 x1 x2,e=.Assign x0 x1 x2/\k x0 x1 x2=true:=by
 cases e with
 | Assign x0 x1 x2=>exact⟨x0,x1,x2,rfl,h⟩
 | _=>exact nomatch show false=true from h
noncomputable def zCP (e:Stmt)(k:Expr->Operator->Expr->Pos->Bool):Bool:=match e with
 | .AugAssign x0 x1 x2 x3=>k x0 x1 x2 x3
 | _=>false
theorem zB8 (h:zCP e k=true):∃ x0 x1 x2 x3,e=.AugAssign x0 x1 x2 x3/\k x0 x1 x2 x3=true:=by
 cases e with
 | AugAssign x0 x1 x2 x3=>exact⟨x0,x1,x2,x3,rfl,h⟩
 | _=>exact nomatch show false=true from h
noncomputable def zCg (e:Stmt)(k:Expr->Pos->Bool):Bool:=match e with
 | .Expr x0 x1=>k x0 x1
 | _=>false
theorem zBY (h:zCg e k=true):∃ x0 x1,e=.Expr x0 x1/\k x0 x1=true:=by
 cases e with
 | Expr x0 x1=>exact⟨x0,x1,rfl,h⟩
 | _=>exact nomatch show false=true from h
noncomputable def onIf (e:Stmt)(k:Expr->List Stmt->List Stmt->Pos->Bool):Bool:=match e with
 | .If x0 x1 x2 x3=>k x0 x1 x2 x3
 | _=>false
theorem zJM (h:onIf e k=true):∃ x0 x1 x2 x3,e=.If x0 x1 x2 x3/\k x0 x1 x2 x3=true:=by
 cases e with
 | If x0 x1 x2 x3=>exact⟨x0,x1,x2,x3,rfl,h⟩
 | _=>exact nomatch show false=true from h
noncomputable def zJH (e:Stmt)(k:Expr->List Stmt->List Stmt->Pos->Bool):Bool:=match e with
 | .While x0 x1 x2 x3=>k x0 x1 x2 x3
 | _=>false
theorem zIK (h:zJH e k=true):∃ x0 x1 x2 x3,e=.While x0 x1 x2 x3/\k x0 x1 x2 x3=true:=by
 cases e with
 | While x0 x1 x2 x3=>exact⟨x0,x1,x2,x3,rfl,h⟩
 | _=>exact nomatch show false=true from h
noncomputable def zOF (e:Stmt)(k:Expr->Expr->List Stmt->List Stmt->Pos->Bool):Bool:=match e with
 | .For x0 x1 x2 x3 x4=>k x0 x1 x2 x3 x4
 | _=>false
theorem zHb (h:zOF e k=true):∃ x0 x1 x2 x3 x4,e=.For x0 x1 x2 x3 x4/\k x0 x1 x2 x3 x4=true:=by
 cases e with
 | For x0 x1 x2 x3 x4=>exact⟨x0,x1,x2,x3,x4,rfl,h⟩
 | _=>exact nomatch show false=true from h
noncomputable def zDM (e:Stmt)(k:Option Expr->Pos->Bool):Bool:=match e with
 | .Return x0 x1=>k x0 x1
 | _=>false
theorem zCM (h:zDM e k=true):∃ x0 x1,e=.Return x0 x1/\k x0 x1=true:=by
 cases e with
 | Return x0 x1=>exact⟨x0,x1,rfl,h⟩
 | _=>exact nomatch show false=true from h
noncomputable def onRaise (e:Stmt)(k:Option Expr->Option Expr->Pos->Bool):Bool:=match e with
 | .Raise x0 x1 x2=>k x0 x1 x2
 | _=>false
noncomputable def zM7 (e:Stmt)(k:Pos->Bool):Bool:=match e with
 | .Pass x0=>k x0
 | _=>false
theorem zJJ (h:zM7 e k=true):∃ x0,e=.Pass x0/\k x0=true:=by
 cases e with
 | Pass x0=>exact⟨x0,rfl,h⟩
 | _=>exact nomatch show false=true from h
noncomputable def zM9 (e:Const)(k:Int->Bool):Bool:=match e with
 | .int x=>k x
 | _=>false
theorem zJQ (h:zM9 e k=true):∃ x,e=.int x/\k x=true:=by
 cases e with
 | int x=>exact⟨x,rfl,h⟩
 | _=>exact nomatch show false=true from h
noncomputable def zJR (e:Const)(k:Bool->Bool):Bool:=match e with
 | .bool x=>k x
 | _=>false
theorem zIN (h:zJR e k=true):∃ x,e=.bool x/\k x=true:=by
 cases e with
 | bool x=>exact⟨x,rfl,h⟩
 | _=>exact nomatch show false=true from h
noncomputable def onEq {U:Type}[DecidableEq U](a b:U)(k:Bool):Bool:=decide (a=b)&&k
theorem zDB {U:Type}[DecidableEq U]{a b:U}{k:Bool}(h:onEq a b k=true):a=b/\k=true:=by
 unfold onEq at h;grind
noncomputable def on0 {U:Type}(l:List U)(k:Bool):Bool:=match l with
 | []=>k
 | _=>false
theorem zAh {U:Type}{l:List U}{k:Bool}(h:on0 l k=true):l=[]/\k=true:=by
 cases l with
 | nil=>exact⟨rfl,h⟩
 | cons _ _=>exact nomatch show false=true from h
noncomputable def on1 {U:Type}(l:List U)(k:U->Bool):Bool:=match l with
 | [x0]=>k x0
 | _=>false
theorem zAo {U:Type}{l:List U}{k:U->Bool}(h:on1 l k=true):∃ x0,l=[x0]/\k x0=true:=by
 cases l with
 | nil=>exact nomatch show false=true from h
 | cons x0 l =>
  cases l with
  | nil=>exact⟨x0,rfl,h⟩
  | cons _ _=>exact nomatch show false=true from h
noncomputable def on2 {U:Type}(l:List U)(k:U->U->Bool):Bool:=match l with
 | [x0,x1]=>k x0 x1
 | _=>false
theorem zDx {U:Type}{l:List U}{k:U->U->Bool}(h:on2 l k=true):∃ x0 x1,l=[x0,x1]/\k x0 x1=true:=by
 cases l with
 | nil=>exact nomatch show false=true from h
 | cons x0 l =>
  cases l with
  | nil=>exact nomatch show false=true from h
  | cons x1 l =>
   cases l with
   | nil=>exact⟨x0,x1,rfl,h⟩
   | cons _ _=>exact nomatch show false=true from h
noncomputable def on3 {U:Type}(l:List U)(k:U->U->U->Bool):Bool:=match l with
 | [x0,x1,x2]=>k x0 x1 x2
 | _=>false
theorem zQg {U:Type}{l:List U}{k:U->U->U->Bool}(h:on3 l k=true):∃ x0 x1 x2,l=[x0,x1,x2]/\k x0 x1 x2=true:=by
 cases l with
 | nil=>exact nomatch show false=true from h
 | cons x0 l =>
  cases l with
  | nil=>exact nomatch show false=true from h
  | cons x1 l =>
   cases l with
   | nil=>exact nomatch show false=true from h
   | cons x2 l =>
    cases l with
    | nil=>exact⟨x0,x1,x2,rfl,h⟩
    | cons _ _=>exact nomatch show false=true from h
noncomputable def zJP {U:Type}(l:List U)(k:U->List U->Bool):Bool:=match l with
 | x::xs=>k x xs
 | _=>false
theorem zF2 {U:Type}{l:List U}{k:U->List U->Bool}(h:zJP l k=true):∃ x xs,l=x::xs/\k x xs=true:=by
 cases l with
 | nil=>exact nomatch show false=true from h
 | cons x xs=>exact⟨x,xs,rfl,h⟩
noncomputable def zHa {U:Type}(o:Option U)(k:U->Bool):Bool:=match o with
 | some x=>k x
 | none=>false
theorem zDw {U:Type}{o:Option U}{k:U->Bool}(h:zHa o k=true):∃ x,o=some x/\k x=true:=by
 cases o with
 | none=>exact nomatch h
 | some x=>exact⟨x,rfl,h⟩
noncomputable def zJK {U:Type}(o:Option U)(k:Bool):Bool:=match o with
 | some _=>false
 | none=>k
theorem zF0 {U:Type}{o:Option U}{k:Bool}(h:zJK o k=true):o=none/\k=true:=by
 cases o with
 | none=>exact⟨rfl,h⟩
 | some x=>exact nomatch show false=true from h
noncomputable def zOE (g:Comprehension)(k:Expr->Expr->List Expr->Int->Bool):Bool:=k g.target g.iter g.ifs g.is_async
theorem zFP (h:zOE g k=true):∃ a b c d,g=⟨a,b,c,d⟩/\k a b c d=true:=by
 cases g;exact⟨_,_,_,_,rfl,h⟩
mutual
noncomputable def cE:E->Scope->List Str->List Str->Expr->Bool
 | .var i,sc,N,bs=>λe=>zAg e λy _=>decide (N[i]?=some y)&&visB sc y&&okN y
 | .glob _ x,sc,N,bs=>λe=>zAg e λy _=>decide (x=y)&&glB sc x&&okN x
 | .int i,sc,N,bs=>λe=>zCw e λz1 _ _=>zM9 z1 λj=>decide (i=j)
 | .bl b,sc,N,bs=>λe=>zCw e λz1 _ _=>zJR z1 λc=>decide (b=c)
 | .non,sc,N,bs=>λe=>zCw e λz1 _ _=>onEq z1 .none<|(true)
 | .bin op a b,sc,N,bs=>λe=>zJS e λl op' r _=>opB op op'&&cE a sc N bs l&&cE b sc N bs r
 | .neg a,sc,N,bs=>λe=>zDL e λz1 l _=>onEq z1 .USub<|(cE a sc N bs l)
 | .not a,sc,N,bs=>λe=>zDL e λz1 l _=>onEq z1 .Not<|(cE a sc N bs l)
 | .cmp op a b,sc,N,bs=>λe=>zCi e λl z1 z2 _=>on1 z1 λop'=>on1 z2 λr=>cmB op op'&&cE a sc N bs l&&cE b sc N bs r
 | .andl es,sc,N,bs=>λe=>zDs e λz1 l _=>onEq z1 .And<|(cEs es sc N bs l)
 | .orl es,sc,N,bs=>λe=>zDs e λz1 l _=>onEq z1 .Or<|(cEs es sc N bs l)
 | .ite c a b,sc,N,bs=>λe=>zJN e λt l r _=>cE c sc N bs t&&cE a sc N bs l&&cE b sc N bs r
 | .tup es,sc,N,bs=>λe=>zGn e λl _ _=>cEs es sc N bs l
 | .lst es,sc,N,bs=>λe=>zJL e λl _=>cEs es sc N bs l
 | .ix a i,sc,N,bs=>λe=>zBL e λl r _=>zDD r&&cE a sc N bs l&&cE i sc N bs r
 | .sl a lo hi,sc,N,bs=>λe=>zBL e λl z1 _=>zJI z1 λx y z2 _=>zJK z2<|(cE a sc N bs l&&cO lo sc N bs x&&cO hi sc N bs y)
 | .call _ f es,sc,N,bs=>λe=>zAv e λz1 l z2 _=>zAg z1 λy _=>on0 z2<|(decide (f=y)&&glB sc f&&okN f&&cEs es sc N bs l)
 | .len a,sc,N,bs=>λe=>zAv e λz1 z2 z3 _=>zAg z1 λy _=>on1 z2 λl=>on0 z3<|(decide (y = "len")&&bltB sc bs "len"&&zAc l&&cE a sc N bs l)
 | .callv i a,sc,N,bs=>λe=>zAv e λz1 z2 z3 _=>zAg z1 λy _=>on1 z2 λx=>on0 z3<|(decide (N[i]?=some y)&&visB sc y&&okN y&&zAc x&&cE a sc N bs x)
 | .fld a f,sc,N,bs=>λe=>zAd e λl m _=>decide (m=f)&&zQi l&&cE a sc N bs l
 | .abs a,sc,N,bs=>λe=>zAv e λz1 z2 z3 _=>zAg z1 λy _=>on1 z2 λl=>on0 z3<|(decide (y = "abs")&&bltB sc bs "abs"&&zAc l&&cE a sc N bs l)
 | .list a,sc,N,bs=>λe=>zAv e λz1 z2 z3 _=>zAg z1 λy _=>on1 z2 λl=>on0 z3<|(decide (y = "list")&&bltB sc bs "list"&&zAc l&&cE a sc N bs l)
 | .max a b,sc,N,bs=>λe=>zAv e λz1 z2 z3 _=>zAg z1 λy _=>on2 z2 λl r=>on0 z3<|(decide (y = "max")&&bltB sc bs "max"&&zAc l&&zAc r&&cE a sc N bs l&&cE b sc N bs r)
 | .isi t a,sc,N,bs=>λe=>zAv e λz1 z2 z3 _=>zAg z1 λy _=>on2 z2 λl z4=>zAg z4 λz _=>on0 z3<|(decide (y = "isinstance")&&decide (z=Str.ofString t.nm)&&bltB sc bs "isinstance"&&bltB sc bs (Str.ofString t.nm)&&zAc l&&cE a sc N bs l)
 | .chn op op' a b c,sc,N,bs=>λe=>zCi e λl z1 z2 _=>on2 z1 λo1 o2=>on2 z2 λm r=>cmB op o1&&cmB op' o2&&chB op&&chB op'&&cE a sc N bs l&&cE b sc N bs m&&cE c sc N bs r
 | .lrev a,sc,N,bs=>λe=>zAv e λz1 z2 z3 _=>zAg z1 λy _=>on1 z2 λz4=>zAv z4 λz5 z6 z7 _=>zAg z5 λz _=>on1 z6 λl=>on0 z7<|on0 z3<|(decide (y = "list")&&decide (z = "reversed")&&bltB sc bs "list"&&bltB sc bs "reversed"&&zAc l&&cE a sc N bs l)
 | .tupl a,sc,N,bs=>λe=>zAv e λz1 z2 z3 _=>zAg z1 λy _=>on1 z2 λl=>on0 z3<|(decide (y = "tuple")&&bltB sc bs "tuple"&&zAc l&&cE a sc N bs l)
 | .comp1 n ms x src c el,sc,N,bs=>λe=>zDV e λv z1 scope _=>on1 z1 λz2=>zOE z2 λz3 t ifs a=>zAg z3 λy _=>decide (x=y)&&decide (a=0)&&decide (n=N.length)&&cscB sc scope&&zLa scope N ms&&decide ((mask noN ms N++[x]).Nodup)&&locB (relS sc scope) x&&ownB scope x&&cI src sc N bs t&&cC c (relS sc scope) (mask noN ms N++[x]) bs ifs&&cE el (relS sc scope) (mask noN ms N++[x]) bs v
 | .lzip a b,sc,N,bs=>λe=>zAv e λz1 z2 z3 _=>zAg z1 λy _=>on1 z2 λz4=>zAv z4 λz5 z6 z7 _=>zAg z5 λz _=>on2 z6 λl r=>on0 z7<|on0 z3<|(decide (y = "list")&&decide (z = "zip")&&bltB sc bs "list"&&bltB sc bs "zip"&&zAc l&&zAc r&&cE a sc N bs l&&cE b sc N bs r)
 | .it _,sc,N,bs=>λ_=>false
 | .r1 _,sc,N,bs=>λ_=>false
 | .r2 _ _,sc,N,bs=>λ_=>false
 | .r3 _ _ _,sc,N,bs=>λ_=>false
 | .nil,sc,N,bs=>λ_=>false
 | .cons _ _,sc,N,bs=>λ_=>false
noncomputable def cI:E->Scope->List Str->List Str->Expr->Bool
 | .it e,sc,N,bs=>λx=>zJT x&&cE e sc N bs x
 | .r1 a,sc,N,bs=>λx=>zAv x λz1 z2 z3 _=>zAg z1 λy _=>on1 z2 λl=>on0 z3<|(decide (y = "range")&&bltB sc bs "range"&&zAc l&&cE a sc N bs l)
 | .r2 a b,sc,N,bs=>λx=>zAv x λz1 z2 z3 _=>zAg z1 λy _=>on2 z2 λl r=>on0 z3<|(decide (y = "range")&&bltB sc bs "range"&&zAc l&&zAc r&&cE a sc N bs l&&cE b sc N bs r)
 | .r3 a b c,sc,N,bs=>λx=>zAv x λz1 z2 z3 _=>zAg z1 λy _=>on3 z2 λl r q=>on0 z3<|(decide (y = "range")&&bltB sc bs "range"&&zAc l&&zAc r&&zAc q&&cE a sc N bs l&&cE b sc N bs r&&cE c sc N bs q)
 | _,_,_,_=>λ_=>false
noncomputable def cC:E->Scope->List Str->List Str->List Expr->Bool
 | .nil,sc,N,bs=>λl=>l.isEmpty
 | .cons c _,sc,N,bs=>λl=>match l with
  | [x]=>cE c sc N bs x
  | _=>false
 | _,_,_,_=>λ_=>false
noncomputable def cEs:E->Scope->List Str->List Str->List Expr->Bool
 | .nil,sc,N,bs=>λl=>l.isEmpty
 | .cons e es,sc,N,bs=>λl=>match l with
  | x::xs=>zAc x&&cE e sc N bs x&&cEs es sc N bs xs
  | []=>false
 | _,_,_,_=>λ_=>false
noncomputable def cO:E->Scope->List Str->List Str->Option Expr->Bool
 | .cons e _,sc,N,bs=>λo=>match o with
  | some x=>cE e sc N bs x
  | none=>false
 | .nil,sc,N,bs=>λo=>o.isNone
 | _,_,_,_=>λ_=>false
end
noncomputable def zOV:E->Bool
 | .comp1 _ _ _ _ _ _=>true
 | _=>false
noncomputable def varB (sc:Scope)(N:List Str)(i:Nat)(x:Str):Bool:=decide (N[i]?=some x)&&locB sc x&&okN x
mutual
noncomputable def cS (sc:Scope)(N bs:List Str):S->Stmt->Bool
 | .set i e=>λs=>zCQ s λz1 v _=>on1 z1 λz2=>zAg z2 λy _=>varB sc N i y&&zF3 v&&cE e sc N bs v
 | .setC i e=>λs=>zCQ s λz1 v _=>on1 z1 λz2=>zAg z2 λy _=>zOV e&&varB sc N i y&&cE e sc N bs v
 | .app i e=>λs=>zCg s λz1 _=>zAv z1 λz2 z3 z4 cpos=>zAd z2 λz5 m apos=>zAg z5 λy _=>on1 z3 λv=>on0 z4<|(decide (m = "append")&&varB sc N i y&&(apos.endLine==cpos.line)&&zAc v&&cE e sc N bs v)
 | .aug op i e=>λs=>zCP s λz1 op' v _=>zAg z1 λy _=>opB op op'&&varB sc N i y&&zF3 v&&cE e sc N bs v
 | .ext i e=>λs=>zCg s λz1 _=>zAv z1 λz2 z3 z4 cpos=>zAd z2 λz5 m apos=>zAg z5 λy _=>on1 z3 λv=>on0 z4<|(decide (m = "extend")&&varB sc N i y&&(apos.endLine==cpos.line)&&zAc v&&cE e sc N bs v)
 | .ife c a b=>λs=>onIf s λt l r _=>cE c sc N bs t&&cSs sc N bs a l&&cSs sc N bs b r
 | .whl c b=>λs=>zJH s λt l z1 _=>on0 z1<|(cE c sc N bs t&&cSs sc N bs b l)
 | .for1 i it b=>λs=>zOF s λz1 t l z2 _=>zAg z1 λy _=>on0 z2<|(varB sc N i y&&cI it sc N bs t&&cSs sc N bs b l)
 | .ret e=>λs=>zDM s λz1 _=>zHa z1 λv=>cE e sc N bs v
 | .retOwn i=>λs=>zDM s λz1 _=>zHa z1 λz2=>zAg z2 λy _=>varB sc N i y
 | .pass=>λs=>zM7 s λ_=>true
 | .never=>λ_=>true
 | .rse c m=>λ_=>false
 | .nil=>λ_=>false
 | .cons _ _=>λ_=>false
 | .frz _ _=>λ_=>false
noncomputable def cSs (sc:Scope)(N bs:List Str):S->List Stmt->Bool
 | .nil=>λl=>l.isEmpty
 | .cons a b=>λl=>match l with
  | s::r=>cS sc N bs a s&&cSs sc N bs b r
  | []=>false
 | .frz _ r=>λl=>cSs sc N bs r l
 | _=>λ_=>false
end
end DL
end
section
namespace DL
open PySem Spec PyProof.Rows L2
structure GOk (P:Program)(w:World)(K:W.Frag)(mg:Str->Option Value)(base:Heap)(k:Nat)(J:Gm)(bs:List Str):Prop where
 fn:∀ x F,(x,F)∈J.fns->∃ f fd ps,FnOk P w K mg base CX0 k f fd ps (spD K F)/\mg x=some (.ref f)/\W.keepIn K (.ref f)=true/\zBb K fd ps []
 cs:∀ x d,(x,d)∈J.cs->∃ u v,mg x=some u/\RelV v u/\Den K (λ_=>none) d v
 bt:∀ x∈bs,mg x=none
 xf:True
 sb:True
 rs:True
 lm:∀ (j:Nat) L F,J.lm[j]?=some (L,F)->zE3 P w K mg base k L F
 ob:∀ p∈J.ob,ObOk K mg p
structure XOk (X:Cx)(k:Nat)(J:Gm)(bs:List Str):Prop where
 g:GOk X.prog X.w X.K X.mg X.base k J bs
 room:Room k X.A
 calm:X.calm=true
 nd:X.N.Nodup
 own:PassesOwn (model X.prog X.w) X.A X.env X.xe
theorem XOk.comp (o:XOk X k J bs)(nd:N.Nodup):XOk (zAW X N scope s H fp) k J bs:=⟨o.g,o.room,o.calm,nd,PassesOwn.never⟩
theorem zAD (h:zAc e=true):starEach (e::es) env=(false,eval e env)::starEach es env:=by
 cases e<;>first | rfl | cases h
theorem zEm (h:zDD e=true):zFj e:=by
 cases e<;>first | intro o i;rfl | cases h
theorem zDE (h:zF3 e=true):swapsWith e t n env=pure false:=by
 cases e<;>first | rfl | cases h
theorem zEn (h:zJT e=true):∀ x,foldedSetIterable e env x=pure x:=by
 intro x;cases e<;>first | rfl | cases h
theorem zE7 (h:visB sc x=true):Vis sc x:=by
 unfold visB at h;split at h
 .rename_i e;exact .inl e
 .rename_i e;exact .inr (.inl e)
 .rename_i e;exact .inr (.inr e)
 .cases h
theorem zD4 (h:locB sc x=true):Loc sc x:=by
 unfold locB at h;split at h
 .rename_i e;exact .inl e
 .rename_i e;exact .inr e
 .cases h
theorem zLf (h:locB sc x=true):Vis sc x:=(zD4 h).elim .inl λe=>.inr (.inl e)
theorem zEq (h:glB X.env.scope x=true):Gl X x:=by
 unfold glB at h;split at h
 .assumption
 .grind
theorem zCj (h:okN x=true):(x==("__debug__":Str))=false/\(x==("__classdict__":Str))=false:=by
 unfold okN at h
 simp_all
theorem zBC (o:XOk X k J bs)(h:bltB X.env.scope bs x=true):Gl X x/\X.mg x=none:=by
 unfold bltB at h
 simp_all
 exact⟨zEq h.1,o.g.bt x (by simp_all)⟩
theorem zCK (o:XOk X k J bs):X.A.units+64 < cLine:=o.room.units
theorem zBq {X:Cx}:∀ {es:List Expr},(∀ e∈es,zAc e=true)->∀ pos,(backTo pos (starEach es X.env)).any (·.1)=false
 | [],_,_=>rfl
 | e::es,h,pos=>by
  rw[zAD (h e q8)];show (false||(backTo pos (starEach es X.env)).any (·.1))=false;rw[zBq (λe z=>h e (qY _ z)) pos]
  rfl
theorem zKw :∀ {es:List Expr},cEs a sc N bs es=true->∀ e∈es,zAc e=true:=by
 induction a with
 | nil =>
  intro es h;cases es with
  | nil=>intro e z;exact absurd z (by simp)
  | cons x xs=>exact zzf h
 | cons a b _ ih =>
  intro es h;cases es with
  | nil=>intro e z;exact absurd z (by simp)
  | cons x xs =>
   simp only[cEs,x8] at h;intro e z;rcases mem_cons.mp z with rfl | z
   .simp_all
   .exact ih h.2 e z
 | _=>intro es h;exact zzf h
end DL
namespace DL
open PySem Spec PyProof.Rows L2
section
variable {X:Cx}
theorem zCm (h:∀ O,f O=none):GE X e f:=λpins s B H Q I zz90=>by
 obtain⟨S,O,z,ds,e,c⟩:=zz90
 simp_all
theorem zFA (h:∀ x y,o x y=none)(O:Dst):two f g o O=none:=by
 unfold two
 simp_all
def zQE (K:W.Frag):R2:=λx y H Q=>∃ l b xs zs,x=.ref l/\y=.ref b/\SqL K H l xs/\SqL K H b zs/\xs.length+zs.length<=sizeLine/\∀ p,H p=none->Q (.ref p) (upd H p (.lst (xs++zs)))
theorem zOD:OpR X (binaryOp .Add) (zQE X.K):=by
 intro pins s B H x y v u Q I rx ry h;obtain⟨l,b,xs,zs,rfl,rfl,hl,hb,hz,q⟩:=h;cases rx;cases ry;obtain⟨its,rv,⟨⟨cls,dd,data,sl⟩,n,e1,e2,e3,e4⟩,z1⟩:=I.list hl;obtain⟨its2,rv2,⟨⟨cls2,dd2,data2,sl2⟩,n2,e1',e2',e3',e4'⟩,z2⟩:=I.list hb;subst e2 e4 e2' e4';refine concat_meets ⟨_,e1,rfl⟩ ⟨_,e1',rfl⟩ noFill_list_add seq_list_add F.slot_list_add F.entry_list_add (F.args_list_add_2 _ _) (zF8 l _ n dd sl b _ n2 dd2 sl2 (by rw[xy,xy,<- rv.length,<- rv2.length];exact hz)) ⟨e1,e1',?_⟩;have ea:its.toArray++its2.toArray=(its++its2).toArray:=by simp
 rw[ea];exact⟨.ref _,_,I.lnew (t':=s.toks) (rv.append rv2) (by simp_all),rfl,q _ I.fresh⟩
theorem zN7:OpD X.K (λx y H Q=>(rI0 (λi j=>.int (i+j)) x y H Q\/zQE X.K x y H Q)\/zQD X.K x y H Q) (binD .Add):=by
 intro S H x y z vx vy Q sok e rx ry c;unfold binD at e;dsimp only at e;split at e
 .cases e;exact .inl (.inl ⟨_,_,rx.int,ry.int,c _ H (Same.refl _) (.int _)⟩)
 .rename_i xs ys;by_cases hl:xs.length+ys.length<=10000
  .rw [if_pos hl] at e;cases e;obtain⟨a,vs,rfl,h1,h2⟩:=rx.lst;obtain⟨b,ws,rfl,h3,h4⟩:=ry.lst;exact .inl (.inr ⟨a,b,vs,ws,rfl,rfl,h1,h3,by rw[<- h2.length,<- h4.length];exact zCe hl,λp n=>c _ _ (zAf n _) (.lstNew (Same.refl _) sok n (h2.append h4))⟩)
  .rw [if_neg hl] at e;cases e
 .rename_i x xs y ys;by_cases hl:(x::xs).length+(y::ys).length<=10000
  .rw [if_pos hl] at e;cases e;obtain⟨a,vs,rfl,h1,h2⟩:=rx.tup;obtain⟨b,ws,rfl,h3,h4⟩:=ry.tup;have n2:ws≠[]:=λz=>by rw[z] at h4;have:=h4.length;simp at this
   exact .inr ⟨a,b,vs,ws,rfl,rfl,h1,h3,(λz=>by rw[z] at h2;have:=h2.length;simp at this),by rw[<- h2.length,<- h4.length];exact zCe hl,λz=>absurd z n2,λ_ p n=>c _ _ (zAf n _) (.tupNew sok n (h2.append h4))⟩
  .rw [if_neg hl] at e;cases e
 .cases e
theorem zN4:OpD X.K (λx y H Q=>rI IntMulOk (λi j=>.int (i*j)) x y H Q\/rRep X.K x y H Q) (binD .Mult):=by
 intro S H x y z vx vy Q sok e rx ry c;unfold binD at e
 simp_all
 split at e
 .unfold mulD at e;split at e
  .rename_i h;cases e;exact .inl ⟨_,_,rx.int,ry.int,h,c _ H (Same.refl _) (.int _)⟩
  .cases e
 .rename_i xs j;by_cases hl:0<=j/\j<=10000/\xs.length*j.toNat<=10000
  .rw [if_pos hl] at e;cases e;obtain⟨a,vs,rfl,h1,h2⟩:=rx.lst;exact .inr ⟨a,vs,j,rfl,ry.int,h1,hl.1,hl.2.1,by rw[<- h2.length];exact hl.2.2,λp n=>c _ _ (zAf n _) (.lstNew (Same.refl _) sok n (zKm h2 _))⟩
  .simp_all
 .cases e
theorem zRe (ha:GE X a f)(hb:GE X b g):GE X (.BinOp a op b pos) (two f g (binD op)):=by
  cases op with
  | Add=>exact zId ((zQe.or zOD).or zOC) zN7 ha hb
  | Sub=>exact zId zQT (zLV λx y z e=>by
      unfold binD at e;dsimp only at e;split at e
      . cases e;exact⟨_,_,rfl,rfl,rfl⟩
      . cases e) ha hb
  | Mult=>exact zId (zOA.or zQU) zN4 ha hb
  | FloorDiv=>exact zId zLW (zGm λx y z e=>by
      unfold binD at e;dsimp only at e;split at e
      . unfold zO8 at e;split at e
        . rename_i h;cases e;exact⟨_,_,rfl,rfl,h,rfl⟩
        . cases e
      . cases e) ha hb
  | Mod=>exact zId zOB (zGm λx y z e=>by
      unfold binD at e;dsimp only at e;split at e
      . split at e
        . cases e
        . rename_i h;cases e;exact⟨_,_,rfl,rfl,h,rfl⟩
      . cases e) ha hb
  | Pow=>exact zId zQV (zGm λx y z e=>by
      unfold binD at e;dsimp only at e;split at e
      . split at e
        . rename_i h;cases e;exact⟨_,_,rfl,rfl,h,rfl⟩
        . cases e
      . cases e) ha hb
  | _=>exact zCm (zFA λ_ _=>rfl)
theorem zB5 {k:Int->Int->Bool}(h:cmpD op=λx y=>match x,y with
    | .int i,.int j=>some (.bl (k i j),.cl)
    | _,_=>none):∀ x y z,cmpD op x y=some z->∃ i j,x=.int i/\y=.int j/\z=(.bl (k i j),.cl):=by
  intro x y z e;rw[h] at e;dsimp only at e;split at e
  . cases e;exact⟨_,_,rfl,rfl,rfl⟩
  . cases e
theorem zH2 (hu:X.A.units+64 < cLine):(∃ r,OpR X (compareOp op) r/\OpD X.K r (cmpD op)/\∀ b,behindInMarks op b=false)\/∀ x y,cmpD op x y=none:=by
 cases op with
 | Lt=>exact .inl ⟨_,zQY,zBf (zB5 rfl),λb=>zDN b⟩
 | LtE=>exact .inl ⟨_,zQZ,zBf (zB5 rfl),λb=>zDN b⟩
 | Gt=>exact .inl ⟨_,zQb,zBf (zB5 rfl),λb=>zDN b⟩
 | GtE=>exact .inl ⟨_,zQc,zBf (zB5 rfl),λb=>zDN b⟩
 | Eq=>exact .inl ⟨_,zQd hu,zM5,λb=>zDN b⟩
 | NotEq=>exact .inl ⟨_,zQX hu,zM5,λb=>zDN b⟩
 | Is=>exact .inl ⟨_,zQa,zN6,λb=>zDN b⟩
 | IsNot=>exact .inl ⟨_,zN9,zLU,λb=>zDN b⟩
 | _=>exact .inr λ_ _=>rfl
theorem zGy (h:∀ O,f O=none):GT X e (asB f):=λpins s B H Q I zz91=>by
 obtain⟨S,O,z,ds,e,c⟩:=zz91;obtain _:=zCa e
 simp_all
theorem zO0 (hu:X.A.units+64 < cLine)(ha:GE X a f)(hb:GE X b g):GE X (.Compare a [op] [b] pos) (two f g (cmpD op))/\GT X (.Compare a [op] [b] pos) (asB (two f g (cmpD op))):=by
 rcases zH2 hu with ⟨r,h1,h2,h3⟩ | h
 .exact ⟨zRd h1 h2 (h3 b) ha hb,zRA h1 h2 (h3 b) ha hb⟩
 .exact ⟨zCm (zFA h),zGy (zFA h)⟩
theorem zBA (h:GE X e f)(he:∀ whole,isTrue e X.env whole=(do let v<-whole;standAt e.pos;holding [v] (truthy v))):GE X e f/\GT X e (asB f):=⟨h,zQ7 h he⟩
structure Good (X:Cx)(J:Gm)(bs:List Str)(a:E):Prop where
 e:∀ e,cE a X.env.scope X.N bs e=true->GE X e (evE J a)/\GT X e (asB (evE J a))
 es:∀ es,cEs a X.env.scope X.N bs es=true->(GA X es (evEs J a)/\GAL X es (evLs J a))/\(es≠[]->∀ pos,(GE X (.BoolOp .And es pos) (evAnd J a)/\GW X (.BoolOp .And es pos) (asB (evAnd J a)))/\GE X (.BoolOp .Or es pos) (evOr J a)/\GW X (.BoolOp .Or es pos) (asB (evOr J a)))
 o:∀ oe,cO a X.env.scope X.N bs oe=true->GO X oe (evO J a)
 i:∀ it,cI a X.env.scope X.N bs it=true->(∀ tg,GI X tg it (evI J a))/\∀ x,foldedSetIterable it X.env x=pure x
 c:∀ ifs,cC a X.env.scope X.N bs ifs=true->GCs X ifs (evC J a)
theorem Good.of (h:∀ e,cE a X.env.scope X.N bs e=true->GE X e (evE J a)/\GT X e (asB (evE J a)))(h2:∀ es,cEs a X.env.scope X.N bs es=false)(h3:∀ oe,cO a X.env.scope X.N bs oe=false)(h4:∀ it,cI a X.env.scope X.N bs it=false)(h5:∀ ifs,cC a X.env.scope X.N bs ifs=false):Good X J bs a :=
 ⟨h,λes q=>absurd (h2 es) (by rw[q];decide),λoe q=>absurd (h3 oe) (by rw[q];decide),λit q=>absurd (h4 it) (by rw[q];decide),λifs q=>absurd (h5 ifs) (by rw[q];decide)⟩
theorem Good.ofI (h:∀ it,cI a X.env.scope X.N bs it=true->(∀ tg,GI X tg it (evI J a))/\∀ x,foldedSetIterable it X.env x=pure x)(h1:∀ e,cE a X.env.scope X.N bs e=false)(h2:∀ es,cEs a X.env.scope X.N bs es=false)(h3:∀ oe,cO a X.env.scope X.N bs oe=false)(h5:∀ ifs,cC a X.env.scope X.N bs ifs=false):Good X J bs a :=
 ⟨λe q=>absurd (h1 e) (by rw[q];decide),λes q=>absurd (h2 es) (by rw[q];decide),λoe q=>absurd (h3 oe) (by rw[q];decide),h,λifs q=>absurd (h5 ifs) (by rw[q];decide)⟩
structure zSD (X:Cx)(tg iter elt:Expr)(ifs:List Expr)(scope:Scope)(ms:List Nat)(xs:List Str)(f:Dst->Option (List D))(t:D->Dst->Option Dst)(c:Dst->Option Bool)(e:Dst->Option R):Prop where
 hi:GI X tg iter f
 hs:∀ x,foldedSetIterable iter X.env x=pure x
 cs:zCv X.env.scope scope
 hm:∀ (i:Nat) x,X.N[i]?=some x->ownB scope x=true->i∈ms
 hg:∀ s H fp,GG (zAW X (mask noN ms X.N++xs) scope s H fp) tg t
 hc:∀ s H fp,GCs (zAW X (mask noN ms X.N++xs) scope s H fp) ifs c
 he:∀ s H fp,GE (zAW X (mask noN ms X.N++xs) scope s H fp) elt e
theorem zHB (h:cscB sc scope=true):zCv sc scope:=by
 unfold cscB at h;simp only[x8,qy,beq_iff_eq,all_eq_true] at h;obtain⟨⟨h1,h2⟩,h3⟩:=h;refine⟨h1,h2,λx hx e=>?_⟩;have q:=h3 x hx
 simp_all
theorem zFU (h:zLa scope N ms=true):∀ (i:Nat) x,N[i]?=some x->ownB scope x=true->i∈ms:=λi x e o=>by
 unfold zLa at h;rw[all_eq_true] at h;have q:=h i (mem_range.mpr (zzg e).1)
 simp_all
theorem zKG (h:xs[k]?=some x):(mask noN ms N++xs)[N.length+k]?=some x:=by
 rw[getElem?_append_right (by rw[zA0];omega),zA0]
 simp_all
end
end DL
end
section
namespace DL
open PySem Spec PyProof.Rows L2
section
variable {X:Cx}{k:Nat}{J:Gm}{bs:List Str}
theorem zSz (o:XOk X k J bs)(hg:Gl X f)(hd:(f==("__debug__":Str))=false)(ha:GA X es g)(hst:∀ e∈es,zAc e=true)(he:es=[]->∀ O,g O=some []):GE X (.Call (.Name f p) es [] pos) (fnD J n f g):=by
 cases q:J.fns[n]? with
 | none=>exact zCm λO=>by unfold fnD;rw[q]
 | some yF =>
  obtain⟨y,F⟩:=yF;by_cases e:y=f
  .subst e;have ef:fnD J n y g=zIi F g:=by
    funext O;unfold fnD
    simp_all
   rw[ef];obtain⟨a,fd,ps,h1,h2,h3,h4⟩:=o.g.fn y F (mem_of_getElem? q);cases es with
   | nil =>
    rw[(funext (he rfl))];exact zMA h1 o.room hg h2 h3 h4 hd
   | cons x xs=>exact zO1 h1 o.room hg h2 h3 h4 ha hd (zAD (hst x q8)) (zBq λe z=>hst e (qY _ z))
  .exact zCm λO=>by
    unfold fnD;rw[q];exact if_neg e
theorem zSy (o:XOk X k J bs)(hg:Gl X x)(hd:(x==("__debug__":Str))=false):GE X (.Name x pos) (zDl J n x):=by
 cases q:J.cs[n]? with
 | none=>exact zCm λO=>by unfold zDl;rw[q]
 | some yd =>
  obtain⟨y,d⟩:=yd;by_cases e:y=x
  .subst e;have ef:zDl J n y=λ_=>some (d,.cl):=by
    unfold zDl
    simp_all
   rw[ef];obtain⟨u,v,h1,h2,h3⟩:=o.g.cs y d (mem_of_getElem? q);exact zOz hg h1 h2 h3 hd
  .exact zCm λO=>by
    unfold zDl
    simp_all
theorem zPc (h:cEs a sc N bs []=true)(O:Dst):evEs J a O=some []:=by
 cases a<;>first | rfl | exact nomatch show false=true from h
theorem zH1 (o:XOk X k J bs)(hs:Good X J bs src)(hc:∀ {X':Cx},XOk X' k J bs->Good X' J bs c)(he:∀ {X':Cx},XOk X' k J bs->Good X' J bs el)(h:cE (.comp1 n ms x src c el) X.env.scope X.N bs e=true) :
  ∃ tg iter elt ifs scope pos,e=.ListComp elt [⟨tg,iter,ifs,0⟩] scope pos/\zSD X tg iter elt ifs scope ms [x] (evI J src) (tg1 n) (evC J c) (evE J el):=by
 obtain⟨v,z1,scope,pos,rfl,hq1⟩:=zCN h;obtain⟨z2,rfl,hq2⟩:=zAo hq1;obtain⟨z3,t,ifs,a,rfl,hq3⟩:=zFP hq2;obtain⟨y,py,rfl,hq4⟩:=zAH hq3;replace h:=hq4;simp at h;obtain⟨⟨⟨⟨⟨⟨⟨⟨⟨⟨rfl,rfl⟩,rfl⟩,h4⟩,h5⟩,h6⟩,h7⟩,h8⟩,h9⟩,h10⟩,h11⟩:=h;have cx:∀ s H fp,XOk (zAW X (mask noN ms X.N++[x]) scope s H fp) k J bs:=λs H fp=>o.comp h6
 refine⟨_,_,_,_,_,_,rfl,⟨(hs.i _ h9).1 _,(hs.i _ h9).2,zHB h4,zFU h5,λs H fp=>?_,λs H fp=>(hc (cx s H fp)).c _ h10,λs H fp=>((he (cx s H fp)).e _ h11).1⟩⟩;exact zJ5 h6 (zKG (k:=0) rfl) (zD4 h7) (.inl h8)
theorem zIQ (h:zQi e=true):attributeBase e f X.env (eval e X.env)=eval e X.env:=by
 cases e with
 | Name _ _=>rfl
 | _=>exact nomatch show false=true from h
theorem zDJ (o:XOk X k J bs)(a:E):Good X J bs a:=by
 have hu:=zCK o
 induction a generalizing X with
 | var i =>
  refine Good.of (λe h=>?_) (λ_=>rfl) (λ_=>rfl) (λ_=>rfl) λ_=>rfl
  obtain⟨_,_,rfl,hq1⟩:=zAH h;replace h:=hq1;simp only[x8,qy] at h;obtain⟨⟨h2,h3⟩,h4⟩:=h;obtain⟨n1,n2⟩:=zCj h4;exact zBA (zRT h2 (zE7 h3) n1 n2) λ_=>rfl
 | glob n x =>
  refine Good.of (λe h=>?_) (λ_=>rfl) (λ_=>rfl) (λ_=>rfl) λ_=>rfl
  obtain⟨_,_,rfl,hq1⟩:=zAH h;replace h:=hq1;simp only[x8,qy] at h;obtain⟨⟨rfl,h2⟩,h4⟩:=h;exact zBA (zSy o (zEq h2) (zCj h4).1) λ_=>rfl
 | int i =>
  refine Good.of (λe h=>?_) (λ_=>rfl) (λ_=>rfl) (λ_=>rfl) λ_=>rfl
  obtain⟨z1,_,_,rfl,hq1⟩:=zCO h;obtain⟨_,rfl,hq2⟩:=zJQ hq1;replace h:=hq2;simp only[qy] at h;subst h;exact zBA ge_int λ_=>rfl
 | bl b =>
  refine Good.of (λe h=>?_) (λ_=>rfl) (λ_=>rfl) (λ_=>rfl) λ_=>rfl
  obtain⟨z1,_,_,rfl,hq1⟩:=zCO h;obtain⟨_,rfl,hq2⟩:=zIN hq1;replace h:=hq2;simp only[qy] at h;subst h;exact zBA zS0 λ_=>rfl
 | non =>
  refine Good.of (λe h=>?_) (λ_=>rfl) (λ_=>rfl) (λ_=>rfl) λ_=>rfl
  obtain⟨z1,_,_,rfl,hq1⟩:=zCO h;obtain⟨rfl,hq2⟩:=zDB hq1;replace h:=hq2;exact zBA zRX λ_=>rfl
 | bin op a b iha ihb =>
  refine Good.of (λe h=>?_) (λ_=>rfl) (λ_=>rfl) (λ_=>rfl) λ_=>rfl
  obtain⟨_,_,_,_,rfl,hq1⟩:=zIO h;replace h:=hq1;simp only[x8,opB,qy] at h;obtain⟨⟨rfl,h1⟩,h2⟩:=h;exact zBA (zRe ((iha o hu).e _ h1).1 ((ihb o hu).e _ h2).1) λ_=>rfl
 | neg a iha =>
  refine Good.of (λe h=>?_) (λ_=>rfl) (λ_=>rfl) (λ_=>rfl) λ_=>rfl
  obtain⟨z1,_,_,rfl,hq1⟩:=zCh h;obtain⟨rfl,hq2⟩:=zDB hq1;replace h:=hq2;exact zBA (zRY ((iha o hu).e _ h).1) λ_=>rfl
 | not a iha =>
  refine Good.of (λe h=>?_) (λ_=>rfl) (λ_=>rfl) (λ_=>rfl) λ_=>rfl
  obtain⟨z1,_,_,rfl,hq1⟩:=zCh h;obtain⟨rfl,hq2⟩:=zDB hq1;replace h:=hq2;exact⟨zRW ((iha o hu).e _ h).1,zQ8 ((iha o hu).e _ h).2⟩
 | cmp op a b iha ihb =>
  refine Good.of (λe h=>?_) (λ_=>rfl) (λ_=>rfl) (λ_=>rfl) λ_=>rfl
  obtain⟨_,z1,z2,_,rfl,hq1⟩:=zB2 h;obtain⟨_,rfl,hq2⟩:=zAo hq1;obtain⟨_,rfl,hq3⟩:=zAo hq2;replace h:=hq3;simp only[x8,cmB,qy] at h;obtain⟨⟨rfl,h1⟩,h2⟩:=h;exact zO0 hu ((iha o hu).e _ h1).1 ((ihb o hu).e _ h2).1
 | andl es ih =>
  refine Good.of (λe h=>?_) (λ_=>rfl) (λ_=>rfl) (λ_=>rfl) λ_=>rfl
  obtain⟨z1,l,pos,rfl,hq1⟩:=zDC h;obtain⟨rfl,hq2⟩:=zDB hq1;replace h:=hq2;cases l with
  | nil =>
   have z:∀ O,evAnd J es O=none:=λO=>by cases es<;>first | rfl | exact(zzf h)
   exact⟨zCm z,zGy z⟩
  | cons x xs =>
   have q:=(((ih o hu).es _ h).2 (by simp) pos).1;exact⟨q.1,q.2.pt⟩
 | orl es ih =>
  refine Good.of (λe h=>?_) (λ_=>rfl) (λ_=>rfl) (λ_=>rfl) λ_=>rfl
  obtain⟨z1,l,pos,rfl,hq1⟩:=zDC h;obtain⟨rfl,hq2⟩:=zDB hq1;replace h:=hq2;cases l with
  | nil =>
   have z:∀ O,evOr J es O=none:=λO=>by cases es<;>first | rfl | exact(zzf h)
   exact⟨zCm z,zGy z⟩
  | cons x xs =>
   have q:=(((ih o hu).es _ h).2 (by simp) pos).2;exact⟨q.1,q.2.pt⟩
 | ite c a b ihc iha ihb =>
  refine Good.of (λe h=>?_) (λ_=>rfl) (λ_=>rfl) (λ_=>rfl) λ_=>rfl
  obtain⟨_,_,_,_,rfl,hq1⟩:=zIM h;replace h:=hq1;simp only[x8] at h;obtain⟨⟨h0,h1⟩,h2⟩:=h;exact⟨zRa ((ihc o hu).e _ h0).2 ((iha o hu).e _ h1).1 ((ihb o hu).e _ h2).1,zQ9 ((ihc o hu).e _ h0).2 ((iha o hu).e _ h1).2 ((ihb o hu).e _ h2).2⟩
 | tup es ih =>
  refine Good.of (λe h=>?_) (λ_=>rfl) (λ_=>rfl) (λ_=>rfl) λ_=>rfl
  obtain⟨_,_,_,rfl,hq1⟩:=zEk h;replace h:=hq1;exact zBA (zRU ((ih o hu).es _ h).1.1) λ_=>rfl
 | lst es ih =>
  refine Good.of (λe h=>?_) (λ_=>rfl) (λ_=>rfl) (λ_=>rfl) λ_=>rfl
  obtain⟨_,_,rfl,hq1⟩:=zF1 h;replace h:=hq1;exact zBA (zRZ ((ih o hu).es _ h).1.1) λ_=>rfl
 | ix a b iha ihb =>
  refine Good.of (λe h=>?_) (λ_=>rfl) (λ_=>rfl) (λ_=>rfl) λ_=>rfl
  obtain⟨_,_,_,rfl,hq1⟩:=zA3 h;replace h:=hq1;simp only[x8] at h;obtain⟨⟨h0,h1⟩,h2⟩:=h;exact zBA (zSx ((iha o hu).e _ h1).1 ((ihb o hu).e _ h2).1 (zEm h0)) λ_=>rfl
 | sl a lo hi iha ihl ihh =>
  refine Good.of (λe h=>?_) (λ_=>rfl) (λ_=>rfl) (λ_=>rfl) λ_=>rfl
  obtain⟨_,z1,_,rfl,hq1⟩:=zA3 h;obtain⟨_,_,z2,_,rfl,hq2⟩:=zIL hq1;obtain⟨rfl,hq3⟩:=zF0 hq2;replace h:=hq3;simp only[x8] at h;obtain⟨⟨h0,h1⟩,h2⟩:=h;exact zBA (zSv ((iha o hu).e _ h0).1 ((ihl o hu).o _ h1) ((ihh o hu).o _ h2)) λ_=>rfl
 | call n f es ih =>
  refine Good.of (λe h=>?_) (λ_=>rfl) (λ_=>rfl) (λ_=>rfl) λ_=>rfl
  obtain⟨z1,_,z2,_,rfl,hq1⟩:=zAL h;obtain⟨_,_,rfl,hq2⟩:=zAH hq1;obtain⟨rfl,hq3⟩:=zAh hq2;replace h:=hq3;simp only[x8,qy] at h;obtain⟨⟨⟨rfl,h2⟩,h3⟩,h4⟩:=h;exact zBA (zSz o (zEq h2) (zCj h3).1 ((ih o hu).es _ h4).1.1 (zKw h4) λe O=>by subst e;exact zPc h4 O) λ_=>rfl
 | len a iha =>
  refine Good.of (λe h=>?_) (λ_=>rfl) (λ_=>rfl) (λ_=>rfl) λ_=>rfl
  obtain⟨z1,z2,z3,_,rfl,hq1⟩:=zAL h;obtain⟨_,_,rfl,hq2⟩:=zAH hq1;obtain⟨_,rfl,hq3⟩:=zAo hq2;obtain⟨rfl,hq4⟩:=zAh hq3;replace h:=hq4;simp only[x8,qy] at h;obtain⟨⟨⟨rfl,h2⟩,h3⟩,h4⟩:=h;obtain⟨g1,g2⟩:=zBC o h2;exact zBA (zRf zDf zN5 g1 g2 PySem.boot_len ((iha o hu).e _ h4).1 (zAD h3) (by decide) (by decide)) λ_=>rfl
 | abs a iha =>
  refine Good.of (λe h=>?_) (λ_=>rfl) (λ_=>rfl) (λ_=>rfl) λ_=>rfl
  obtain⟨z1,z2,z3,_,rfl,hq1⟩:=zAL h;obtain⟨_,_,rfl,hq2⟩:=zAH hq1;obtain⟨_,rfl,hq3⟩:=zAo hq2;obtain⟨rfl,hq4⟩:=zAh hq3;replace h:=hq4;simp only[x8,qy] at h;obtain⟨⟨⟨rfl,h2⟩,h3⟩,h4⟩:=h;obtain⟨g1,g2⟩:=zBC o h2;exact zBA (zRf zMh zN8 g1 g2 boot_abs ((iha o hu).e _ h4).1 (zAD h3) (by decide) (by decide)) λ_=>rfl
 | list a iha =>
  refine Good.of (λe h=>?_) (λ_=>rfl) (λ_=>rfl) (λ_=>rfl) λ_=>rfl
  obtain⟨z1,z2,z3,_,rfl,hq1⟩:=zAL h;obtain⟨_,_,rfl,hq2⟩:=zAH hq1;obtain⟨_,rfl,hq3⟩:=zAo hq2;obtain⟨rfl,hq4⟩:=zAh hq3;replace h:=hq4;simp only[x8,qy] at h;obtain⟨⟨⟨rfl,h2⟩,h3⟩,h4⟩:=h;obtain⟨g1,g2⟩:=zBC o h2;exact zBA (zRV zDe zLT g1 g2 boot_list ((iha o hu).e _ h4).1 (zAD h3) (by decide) (by decide)) λ_=>rfl
 | max a b iha ihb =>
  refine Good.of (λe h=>?_) (λ_=>rfl) (λ_=>rfl) (λ_=>rfl) λ_=>rfl
  obtain⟨z1,z2,z3,_,rfl,hq1⟩:=zAL h;obtain⟨_,_,rfl,hq2⟩:=zAH hq1;obtain⟨_,_,rfl,hq3⟩:=zDx hq2;obtain⟨rfl,hq4⟩:=zAh hq3;replace h:=hq4;simp only[x8,qy] at h;obtain⟨⟨⟨⟨⟨rfl,h2⟩,h3⟩,h4⟩,h5⟩,h6⟩:=h;obtain⟨g1,g2⟩:=zBC o h2;exact zBA (zS1 (zKt o.calm) (λx y z e=>by
   unfold maxD at e;split at e
   .cases e;exact⟨_,_,rfl,rfl,rfl⟩
   .cases e) g1 g2 boot_max ((iha o hu).e _ h5).1 ((ihb o hu).e _ h6).1 (zAD h3) (zAD h4) (by decide) (by decide)) λ_=>rfl
 | isi t a iha =>
  refine Good.of (λe h=>?_) (λ_=>rfl) (λ_=>rfl) (λ_=>rfl) λ_=>rfl
  obtain⟨z1,z2,z3,_,rfl,hq1⟩:=zAL h;obtain⟨_,_,rfl,hq2⟩:=zAH hq1;obtain⟨_,z4,rfl,hq3⟩:=zDx hq2;obtain⟨_,_,rfl,hq4⟩:=zAH hq3;obtain⟨rfl,hq5⟩:=zAh hq4;replace h:=hq5;simp only[x8,qy] at h;obtain⟨⟨⟨⟨⟨rfl,rfl⟩,h2⟩,h3⟩,h4⟩,h5⟩:=h;obtain⟨g1,g2⟩:=zBC o h2;obtain⟨g3,g4⟩:=zBC o h3;exact zBA (zRb g1 g2 g3 g4 ((iha o hu).e _ h5).1 (zAD h4)) λ_=>rfl
 | chn op op' a b c iha ihb ihc =>
  refine Good.of (λe h=>?_) (λ_=>rfl) (λ_=>rfl) (λ_=>rfl) λ_=>rfl
  obtain⟨_,z1,z2,_,rfl,hq1⟩:=zB2 h;obtain⟨_,_,rfl,hq2⟩:=zDx hq1;obtain⟨_,_,rfl,hq3⟩:=zDx hq2;replace h:=hq3;simp only[x8,cmB,qy] at h;obtain⟨⟨⟨⟨⟨⟨rfl,rfl⟩,h1⟩,h2⟩,h3⟩,h4⟩,h5⟩:=h;have k:∀ {op:CmpOp},chB op=true->∃ r,OpR X (compareOp op) r/\OpD X.K r (cmpD op):=λ{op} q=>by
   cases op with
   | Lt=>exact⟨_,zQY,zBf (zB5 rfl)⟩
   | LtE=>exact⟨_,zQZ,zBf (zB5 rfl)⟩
   | Gt=>exact⟨_,zQb,zBf (zB5 rfl)⟩
   | GtE=>exact⟨_,zQc,zBf (zB5 rfl)⟩
   | _=>exact absurd q (by decide)
  obtain⟨r,a1,a2⟩:=k h1;obtain⟨r',b1,b2⟩:=k h2;exact zL8 a1 b1 a2 b2 h2 ((iha o hu).e _ h3).1 ((ihb o hu).e _ h4).1 ((ihc o hu).e _ h5).1
 | callv i a iha =>
  refine Good.of (λe h=>?_) (λ_=>rfl) (λ_=>rfl) (λ_=>rfl) λ_=>rfl
  obtain⟨z1,z2,z3,_,rfl,hq1⟩:=zAL h;obtain⟨_,_,rfl,hq2⟩:=zAH hq1;obtain⟨_,rfl,hq3⟩:=zAo hq2;obtain⟨rfl,hq4⟩:=zAh hq3;replace h:=hq4;simp only[x8,qy] at h;obtain⟨⟨⟨⟨h1,h2⟩,h3⟩,h4⟩,h5⟩:=h;obtain⟨d1,d2⟩:=zCj h3;exact zBA (zL9 o.g.lm o.g.fn o.room h1 (zE7 h2) d1 d2 ((iha o hu).e _ h5).1 (zAD h4) o.own) λ_=>rfl
 | fld a f iha =>
  refine Good.of (λe h=>?_) (λ_=>rfl) (λ_=>rfl) (λ_=>rfl) λ_=>rfl
  obtain⟨_,_,_,rfl,hq1⟩:=zAQ h;replace h:=hq1;simp only[x8,qy] at h;obtain⟨⟨rfl,h2⟩,h3⟩:=h;exact zBA (zRc ((iha o hu).e _ h3).1 (zIQ h2) λc m C q=>o.g.ob _ m C q) λ_=>rfl
 | lrev a iha =>
  refine Good.of (λe h=>?_) (λ_=>rfl) (λ_=>rfl) (λ_=>rfl) λ_=>rfl
  obtain⟨z1,z2,z3,_,rfl,hq1⟩:=zAL h;obtain⟨_,_,rfl,hq2⟩:=zAH hq1;obtain⟨z4,rfl,hq3⟩:=zAo hq2;obtain⟨z5,z6,z7,_,rfl,hq4⟩:=zAL hq3;obtain⟨_,_,rfl,hq5⟩:=zAH hq4;obtain⟨_,rfl,hq6⟩:=zAo hq5;obtain⟨rfl,hq7⟩:=zAh hq6;obtain⟨rfl,hq8⟩:=zAh hq7;replace h:=hq8;simp only[x8,qy] at h;obtain⟨⟨⟨⟨⟨rfl,rfl⟩,h2⟩,h3⟩,h4⟩,h5⟩:=h;obtain⟨g1,g2⟩:=zBC o h2;obtain⟨g3,g4⟩:=zBC o h3;exact zBA (zIf o.calm g1 g2 g3 g4 ((iha o hu).e _ h5).1 (zAD h4)) λ_=>rfl
 | tupl a iha =>
  refine Good.of (λe h=>?_) (λ_=>rfl) (λ_=>rfl) (λ_=>rfl) λ_=>rfl
  obtain⟨z1,z2,z3,_,rfl,hq1⟩:=zAL h;obtain⟨_,_,rfl,hq2⟩:=zAH hq1;obtain⟨_,rfl,hq3⟩:=zAo hq2;obtain⟨rfl,hq4⟩:=zAh hq3;replace h:=hq4;simp only[x8,qy] at h;obtain⟨⟨⟨rfl,h2⟩,h3⟩,h4⟩:=h;obtain⟨g1,g2⟩:=zBC o h2;exact zBA (zRV zFf zJG g1 g2 zMi ((iha o hu).e _ h4).1 (zAD h3) (by decide) (by decide)) λ_=>rfl
 | comp1 n ms x src c el ihs ihc ihe =>
  refine Good.of (λe h=>?_) (λ_=>rfl) (λ_=>rfl) (λ_=>rfl) λ_=>rfl
  obtain⟨tg,iter,elt,ifs,scope,pos,rfl,q⟩:=zH1 o (ihs o hu) (λo'=>ihc o' (zCK o')) (λo'=>ihe o' (zCK o')) h;exact zBA (zJ6 o.calm q.hi q.hs q.cs q.hm q.hg q.hc q.he) λ_=>rfl
 | lzip a b iha ihb =>
  refine Good.of (λe h=>?_) (λ_=>rfl) (λ_=>rfl) (λ_=>rfl) λ_=>rfl
  obtain⟨z1,z2,z3,_,rfl,hq1⟩:=zAL h;obtain⟨_,_,rfl,hq2⟩:=zAH hq1;obtain⟨z4,rfl,hq3⟩:=zAo hq2;obtain⟨z5,z6,z7,_,rfl,hq4⟩:=zAL hq3;obtain⟨_,_,rfl,hq5⟩:=zAH hq4;obtain⟨_,_,rfl,hq6⟩:=zDx hq5;obtain⟨rfl,hq7⟩:=zAh hq6;obtain⟨rfl,hq8⟩:=zAh hq7;replace h:=hq8;simp only[x8,qy] at h;obtain⟨⟨⟨⟨⟨⟨⟨rfl,rfl⟩,h2⟩,h3⟩,h4⟩,h5⟩,h6⟩,h7⟩:=h;obtain⟨g1,g2⟩:=zBC o h2;obtain⟨g3,g4⟩:=zBC o h3;exact zBA (zIe o.calm g1 g2 g3 g4 ((iha o hu).e _ h6).1 ((ihb o hu).e _ h7).1 (zAD h4) (zAD h5)) λ_=>rfl
 | it a iha =>
  refine Good.ofI (λit h=>?_) (λ_=>rfl) (λ_=>rfl) (λ_=>rfl) λ_=>rfl
  replace h:(zJT it&&cE a X.env.scope X.N bs it)=true:=h;simp only[x8] at h;exact⟨λtg=>zRS ((iha o hu).e _ h.2).1,zEn h.1⟩
 | r1 a iha =>
  refine Good.ofI (λit h=>?_) (λ_=>rfl) (λ_=>rfl) (λ_=>rfl) λ_=>rfl
  obtain⟨z1,z2,z3,_,rfl,hq1⟩:=zAL h;obtain⟨_,_,rfl,hq2⟩:=zAH hq1;obtain⟨_,rfl,hq3⟩:=zAo hq2;obtain⟨rfl,hq4⟩:=zAh hq3;replace h:=hq4;simp only[x8,qy] at h;obtain⟨⟨⟨rfl,h2⟩,h3⟩,h4⟩:=h;obtain⟨g1,g2⟩:=zBC o h2;exact⟨λtg=>zJ4 g1 g2 ((iha o hu).e _ h4).1 (zAD h3),λ_=>rfl⟩
 | r2 a b iha ihb =>
  refine Good.ofI (λit h=>?_) (λ_=>rfl) (λ_=>rfl) (λ_=>rfl) λ_=>rfl
  obtain⟨z1,z2,z3,_,rfl,hq1⟩:=zAL h;obtain⟨_,_,rfl,hq2⟩:=zAH hq1;obtain⟨_,_,rfl,hq3⟩:=zDx hq2;obtain⟨rfl,hq4⟩:=zAh hq3;replace h:=hq4;simp only[x8,qy] at h;obtain⟨⟨⟨⟨⟨rfl,h2⟩,h3⟩,h4⟩,h5⟩,h6⟩:=h;obtain⟨g1,g2⟩:=zBC o h2;exact⟨λtg=>zJ3 g1 g2 ((iha o hu).e _ h5).1 ((ihb o hu).e _ h6).1 (zAD h3) (zAD h4),λ_=>rfl⟩
 | r3 a b c iha ihb ihc =>
  refine Good.ofI (λit h=>?_) (λ_=>rfl) (λ_=>rfl) (λ_=>rfl) λ_=>rfl
  obtain⟨z1,z2,z3,_,rfl,hq1⟩:=zAL h;obtain⟨_,_,rfl,hq2⟩:=zAH hq1;obtain⟨_,_,_,rfl,hq3⟩:=zQg hq2;obtain⟨rfl,hq4⟩:=zAh hq3;replace h:=hq4;simp only[x8,qy] at h;obtain⟨⟨⟨⟨⟨⟨⟨rfl,h2⟩,h3⟩,h4⟩,h4'⟩,h5⟩,h6⟩,h7⟩:=h;obtain⟨g1,g2⟩:=zBC o h2;exact⟨λtg=>zJ2 g1 g2 ((iha o hu).e _ h5).1 ((ihb o hu).e _ h6).1 ((ihc o hu).e _ h7).1 (zAD h3) (zAD h4) (zAD h4'),λ_=>rfl⟩
 | nil =>
  refine⟨λe h=>(zzf h),λes h=>?_,λoe h=>?_,λit h=>(zzf h),λifs h=>?_⟩
  .cases es with
   | nil=>exact⟨⟨zRh,zO5⟩,λz=>absurd rfl z⟩
   | cons x xs=>exact(zzf h)
  .cases oe with
   | none=>exact zOq
   | some x=>exact(zzf h)
  .cases ifs with
   | nil=>exact zO3
   | cons x xs=>exact(zzf h)
 | cons e es ihe ihs =>
  refine⟨λe h=>(zzf h),λl h=>?_,λoe h=>?_,λit h=>(zzf h),λifs h=>?_⟩
  .cases l with
   | nil=>exact(zzf h)
   | cons x xs =>
    replace h:(zAc x&&cE e X.env.scope X.N bs x&&cEs es X.env.scope X.N bs xs)=true:=h;simp only[x8] at h;obtain⟨⟨h1,h2⟩,h3⟩:=h;obtain⟨q1,q2⟩:=(ihe o hu).e _ h2;refine⟨⟨zO6 q1 ((ihs o hu).es _ h3).1.1 (zAD h1),zMC q1 ((ihs o hu).es _ h3).1.2 (zAD h1)⟩,λ_ pos=>?_⟩;cases xs with
    | nil =>
     have hn:es=.nil:=by cases es<;>first | rfl | exact(zzf h3)
     subst hn;exact⟨⟨zNN q1,zIb q2⟩,zNN q1,zJw q2⟩
    | cons y ys =>
     have hc:∃ a b,es=.cons a b:=by cases es<;>first | exact⟨_,_,rfl⟩ | exact(zzf h3)
     obtain⟨a,b,rfl⟩:=hc;obtain⟨⟨r1,r2⟩,r3,r4⟩:=((ihs o hu).es _ h3).2 (by simp) pos;exact⟨⟨zRg q1 r1,zQ5 q2 r2⟩,zSw q1 r3,zSq q2 r4⟩
  .cases oe with
   | none=>exact(zzf h)
   | some x =>
    replace h:cE e X.env.scope X.N bs x=true:=h;exact zOp ((ihe o hu).e _ h).1
  .cases ifs with
   | nil=>exact(zzf h)
   | cons x xs =>
    cases xs with
    | nil=>exact zO2 ((ihe o hu).e _ h).2
    | cons _ _=>exact(zzf h)
theorem zB7 (h:varB sc N i x=true):N[i]?=some x/\Loc sc x/\Vis sc x/\(x==("__debug__":Str))=false/\(x==("__classdict__":Str))=false:=by
 unfold varB at h;simp at h;obtain⟨⟨h1,h2⟩,h3⟩:=h;exact⟨h1,zD4 h2,zLf h2,zCj h3⟩
theorem zP3 (o:XOk X k J bs)(fnl:∀ x,X.fn x=true)(hxe:X.xe=λ_ _=>False)(hst:X.stack=X.env::X.outer)(hfr:X.env.frame=some X.env.locals)(a:S) :
  ((∀ st,cS X.env.scope X.N bs a st=true->GS X st (evS J a))/\∀ sts,cSs X.env.scope X.N bs a sts=true->GSs X sts (evSs J a)) /\
  (∀ st,cS X.env.scope X.N bs a st=true->GXs X st (xvS J a))/\∀ sts,cSs X.env.scope X.N bs a sts=true->GXss X sts (xvSs J a):=by
 induction a with
 | nil =>
  refine⟨⟨λst h=>(zzf h),λsts h=>?_⟩,λst h=>zAP,λsts h=>zAP⟩;cases sts with
  | nil=>exact zOh
  | cons x xs=>exact(zzf h)
 | cons a b iha ihb =>
  refine⟨⟨λst h=>(zzf h),λsts h=>?_⟩,λst h=>zAP,λsts h=>zAP⟩
  .cases sts with
   | nil=>exact(zzf h)
   | cons x xs =>
    replace h:(cS X.env.scope X.N bs a x&&cSs X.env.scope X.N bs b xs)=true:=h;simp only[x8] at h;exact zLv (iha.1.1 _ h.1) (ihb.1.2 _ h.2)
 | frz i r ih =>
  refine⟨⟨λst h=>(zzf h),λsts h=>?_⟩,λst h=>zAP,λsts h=>zAP⟩
  .replace h:cSs X.env.scope X.N bs r sts=true:=h;exact zOg zRl (ih.1.2 _ h)
 | set i e =>
  refine⟨⟨λst h=>?_,λsts h=>(zzf h)⟩,λst h=>zAP,λsts h=>zAP⟩
  .obtain ⟨z1,_,_,rfl,hq1⟩:=zBZ h;obtain⟨z2,rfl,hq2⟩:=zAo hq1;obtain⟨_,_,rfl,hq3⟩:=zAH hq2;replace h:=hq3;simp only[x8,qy] at h;obtain⟨⟨h2,h3⟩,h4⟩:=h;obtain⟨v1,v2,_⟩:=zB7 h2;exact zNM o.nd v1 v2 ((zDJ o e).e _ h4).1 (zDE h3) (.inl (fnl _))
 | setC i e =>
  refine⟨⟨λst h=>?_,λsts h=>(zzf h)⟩,λst h=>zAP,λsts h=>zAP⟩;obtain⟨z1,_,_,rfl,hq1⟩:=zBZ h;obtain⟨z2,rfl,hq2⟩:=zAo hq1;obtain⟨_,_,rfl,hq3⟩:=zAH hq2;replace h:=hq3;simp only[x8,qy] at h;obtain⟨⟨h0,h2⟩,h4⟩:=h;obtain⟨v1,v2,_⟩:=zB7 h2;cases e with
  | comp1 n ms x src c el =>
   obtain⟨tg,iter,elt,ifs,scope,pos,rfl,q⟩:=zH1 o (zDJ o src) (λo'=>zDJ o' c) (λo'=>zDJ o' el) h4;exact zOn o.calm q.hi q.hs q.cs q.hm q.hg q.hc q.he o.nd v1 v2 (.inl (fnl _))
  | _=>cases h0
 | app i e =>
  refine⟨⟨λst h=>?_,λsts h=>(zzf h)⟩,λst h=>zAP,λsts h=>zAP⟩;obtain⟨z1,_,rfl,hq1⟩:=zBY h;obtain⟨z2,z3,z4,_,rfl,hq2⟩:=zAL hq1;obtain⟨z5,_,_,rfl,hq3⟩:=zAQ hq2;obtain⟨_,_,rfl,hq4⟩:=zAH hq3;obtain⟨_,rfl,hq5⟩:=zAo hq4;obtain⟨rfl,hq6⟩:=zAh hq5;replace h:=hq6;simp only[x8,qy] at h;obtain⟨⟨⟨⟨rfl,h2⟩,h3⟩,h4⟩,h5⟩:=h;obtain⟨v1,v2,v3,v4,v5⟩:=zB7 h2;exact zRH v1 v3 v4 v5 ((zDJ o e).e _ h5).1 (zAD h4) rfl h3
 | aug op i e =>
  refine⟨⟨λst h=>?_,λsts h=>(zzf h)⟩,λst h=>zAP,λsts h=>zAP⟩;obtain⟨z1,_,_,_,rfl,hq1⟩:=zB8 h;obtain⟨_,_,rfl,hq2⟩:=zAH hq1;replace h:=hq2;simp only[x8,qy,opB] at h;obtain⟨⟨⟨rfl,h2⟩,h3⟩,h4⟩:=h;obtain⟨v1,v2,_⟩:=zB7 h2;exact zRG o.nd v1 v2 ((zDJ o e).e _ h4).1 (.inl (fnl _))
 | ext i e =>
  refine⟨⟨λst h=>?_,λsts h=>(zzf h)⟩,λst h=>zAP,λsts h=>zAP⟩;obtain⟨z1,_,rfl,hq1⟩:=zBY h;obtain⟨z2,z3,z4,_,rfl,hq2⟩:=zAL hq1;obtain⟨z5,_,_,rfl,hq3⟩:=zAQ hq2;obtain⟨_,_,rfl,hq4⟩:=zAH hq3;obtain⟨_,rfl,hq5⟩:=zAo hq4;obtain⟨rfl,hq6⟩:=zAh hq5;replace h:=hq6;simp only[x8,qy] at h;obtain⟨⟨⟨⟨rfl,h2⟩,h3⟩,h4⟩,h5⟩:=h;obtain⟨v1,v2,v3,v4,v5⟩:=zB7 h2;exact zRF v1 v3 v4 v5 ((zDJ o e).e _ h5).1 (zAD h4) rfl h3
 | ife c a b iha ihb =>
  refine⟨⟨λst h=>?_,λsts h=>(zzf h)⟩,λst h=>zAP,λsts h=>zAP⟩
  .obtain ⟨_,_,_,_,rfl,hq1⟩:=zJM h;replace h:=hq1;simp only[x8] at h;obtain⟨⟨h1,h2⟩,h3⟩:=h;exact zSr ((zDJ o c).e _ h1).2 (iha.1.2 _ h2) (ihb.1.2 _ h3)
 | whl c b ihb =>
  refine⟨⟨λst h=>?_,λsts h=>(zzf h)⟩,λst h=>zAP,λsts h=>zAP⟩;obtain⟨_,_,z1,_,rfl,hq1⟩:=zIK h;obtain⟨rfl,hq2⟩:=zAh hq1;replace h:=hq2;simp only[x8] at h;exact zL2 o.own ((zDJ o c).e _ h.1).2 (ihb.1.2 _ h.2)
 | for1 i it b ihb =>
  refine⟨⟨λst h=>?_,λsts h=>(zzf h)⟩,λst h=>zAP,λsts h=>zAP⟩;obtain⟨z1,_,_,z2,_,rfl,hq1⟩:=zHb h;obtain⟨_,_,rfl,hq2⟩:=zAH hq1;obtain⟨rfl,hq3⟩:=zAh hq2;replace h:=hq3;simp only[x8,qy] at h;obtain⟨⟨h2,h3⟩,h4⟩:=h;obtain⟨v1,v2,_⟩:=zB7 h2;obtain⟨s1,s2⟩:=(zDJ o it).i _ h3;exact zRE o.own o.calm (s1 _) (zJ5 o.nd v1 v2 (.inl (fnl _))) (ihb.1.2 _ h4) s2
 | ret e =>
  refine⟨⟨λst h=>?_,λsts h=>(zzf h)⟩,λst h=>zAP,λsts h=>zAP⟩
  .obtain ⟨z1,_,rfl,hq1⟩:=zCM h;obtain⟨_,rfl,hq2⟩:=zDw hq1;replace h:=hq2;exact zRD ((zDJ o e).e _ h).1
 | retOwn i =>
  refine⟨⟨λst h=>?_,λsts h=>(zzf h)⟩,λst h=>zAP,λsts h=>zAP⟩;obtain⟨z1,_,rfl,hq1⟩:=zCM h;obtain⟨z2,rfl,hq2⟩:=zDw hq1;obtain⟨_,_,rfl,hq3⟩:=zAH hq2;replace h:=hq3;obtain⟨v1,v2,v3,v4,v5⟩:=zB7 h;exact zJ0 v1 v3 v4 v5
 | pass =>
  refine⟨⟨λst h=>?_,λsts h=>(zzf h)⟩,λst h=>zAP,λsts h=>zAP⟩;obtain⟨_,rfl,hq1⟩:=zJJ h;replace h:=hq1;exact zOo
 | never=>exact⟨⟨λst _=>zL3,λsts h=>(zzf h)⟩,λst h=>zAP,λsts h=>zAP⟩
 | rse c m =>
  exact⟨⟨λst h=>(zzf h),λsts h=>(zzf h)⟩,λst h=>(zzf h),λsts h=>(zzf h)⟩
end
theorem zNY {K:W.Frag}{st:Stmt}(F:Fun K x qual st f fd)(sc:zAq N ps (zAA st))
  (ck:cSs (zAA st) N bs b (zAK st)=true) (g:GOk P w K mg base k J bs):FnOk P w K mg base CX0 (k+1) f fd ps (spD K (dFun ps.length N.length (evSs J b))) :=
 zRk F sc λcdv A outer s H E hr =>
  (zP3 ⟨g,hr,rfl,sc.nd,PassesOwn.never⟩ (λ_=>rfl) rfl rfl rfl b).1.2 _ ck
noncomputable def Gm.add (J:Gm)(x:Str)(F:List D->Option R):Gm:=⟨J.fns++[(x,F)],J.cs,J.xf,J.sub,J.rs,J.lm,J.ob⟩
theorem GOk.add {K:W.Frag}{st:Stmt}(g:GOk P w K mg base k J bs)(F:Fun K x x st f fd)(sc:zAq N ps (zAA st))
  (ck:cSs (zAA st) N bs b (zAK st)=true) (m:mg x=some (.ref f)) (bi:zBb K fd ps []):GOk P w K mg base (k+1) (J.add x (dFun ps.length N.length (evSs J b))) bs:=by
 refine⟨λy G h=>?_,g.cs,g.bt,trivial,trivial,trivial,λj L F e=>(g.lm j L F e).mono (Nat.le_succ k),g.ob⟩
 .rcases mem_append.mp h with h | h
  .obtain ⟨f',fd',ps',h1,h2⟩:=g.fn y G h;exact⟨f',fd',ps',h1.mono (Nat.le_succ k),h2⟩
  .have e:(y,G)=(x,dFun ps.length N.length (evSs J b)):=by simpa using h
   cases e;exact⟨f,fd,ps,zNY F sc ck g,m,F.kp,bi⟩
theorem GOk.addN {K:W.Frag}{st:Stmt}(g:GOk P w K mg base k J bs)(F:Fun K x x st f fd)(m:mg x=some (.ref f))(bi:zBb K fd ps []) :
  GOk P w K mg base k (J.add x (λ_=>none)) bs:=by
 refine⟨λy G h=>?_,g.cs,g.bt,trivial,trivial,trivial,g.lm,g.ob⟩
 .rcases mem_append.mp h with h | h
  .exact g.fn y G h
  .have e:(y,G)=(x,λ_=>none):=by simpa using h
   cases e;exact⟨f,fd,ps,⟨λvs H Q E q=>(by obtain⟨_,_,_,_,_,q,_⟩:=q;cases q),λA outer s H args us vs Q E hr he hb hv q=>by obtain⟨_,_,_,_,_,q,_⟩:=q;cases q⟩,m,F.kp,bi⟩
theorem GOk.addR {K:W.Frag}{st:Stmt}(g:GOk P w K mg base k J bs)(g':GOk P w K mg base j J' bs)(hk:k<=j)(F:Fun K x x st f fd)(sc:zAq N ps (zAA st))
  (ck:cSs (zAA st) N bs b (zAK st)=true) (m:mg x=some (.ref f)) (bi:zBb K fd ps []):GOk P w K mg base (j+1) (J.add x (dFun ps.length N.length (evSs J' b))) bs:=by
 refine⟨λy G h=>?_,g.cs,g.bt,trivial,trivial,trivial,λi L F e=>(g.lm i L F e).mono (by omega),g.ob⟩
 .rcases mem_append.mp h with h | h
  .obtain ⟨f',fd',ps',h1,h2⟩:=g.fn y G h;exact⟨f',fd',ps',h1.mono (by omega),h2⟩
  .have e:(y,G)=(x,dFun ps.length N.length (evSs J' b)):=by simpa using h
   cases e;exact⟨f,fd,ps,zNY F sc ck g',m,F.kp,bi⟩
noncomputable def Gm.addL (J:Gm)(L:LamI)(F:List D->Option R):Gm:=⟨J.fns,J.cs,J.xf,J.sub,J.rs,J.lm++[(L,F)],J.ob⟩
noncomputable def lamD (n:Nat)(G:Dst->Option R):List D->Option R:=λds=>if ds.length=n+1/\noFs ds=true then G (ds.map λd=>some (d,false)) else none
theorem GOk.addL {K:W.Frag}(g:GOk P w K mg base k J bs)(S:zHN x ys L)(ey:frN L=ys)(ck:cE be L.scope (x::ys) bs L.body=true) :
  GOk P w K mg base (k+1) (J.addL L (lamD ys.length (evE J be))) bs:=by
 refine⟨λy G h=>let ⟨f,fd,ps,h1,h2⟩:=g.fn y G h;⟨f,fd,ps,h1.mono (Nat.le_succ k),h2⟩,g.cs,g.bt,trivial,trivial,trivial,λj L' F e=>?_,g.ob⟩;have e':(J.lm++[_])[j]?=some (L',F):=e;by_cases q:j < J.lm.length
 .rw [getElem?_append_left q] at e';exact(g.lm j L' F e').mono (Nat.le_succ k)
 .rw [getElem?_append_right (by omega)] at e';have q2:j - J.lm.length=0:=by
   by_cases z:j - J.lm.length=0
   .exact z
   .simp_all
  rw[q2] at e';cases e';refine zOQ S ey λY e1 e2 e3 e4 e5 hr hc hN hs hx=>?_
  subst e1 e2 e3 e4 e5;rw[<- hN,<- hs] at ck;exact((zDJ (X:=Y) ⟨g,hr,hc,by rw[hN];exact S.nd,by rw[hx];exact PassesOwn.never⟩ be).e _ ck).1
theorem zMk (h:absV u=some v):RelV v u:=by
 unfold absV at h;split at h<;>first | cases h;rfl | cases h;exact⟨_,rfl⟩ | cases h
theorem zHQ:∀ {us:List Value} {vs:List V},us.map absV=vs.map some->Vals vs us
 | [],[],_=>.nil
 | [],_::_,h=>by simp at h
 | _::_,[],h=>by simp at h
 | u::us,v::vs,h=>by
  simp only[map_cons,List.cons.injEq] at h;exact .cons (zMk h.1) (zHQ h.2)
theorem zFX {K:W.Frag}{mg:Str->Option Value}{ns:List Int}(m:mg x=some (.ref a))(l:K.lookup a=some ⟨.type "tuple",od,.seq its n,sl⟩)
  (h:its.toList.map absV=(ns.map V.int).map some) (hl:ns.length<=1000:=by decide):∃ u v,mg x=some u/\RelV v u/\Den K (λ_=>none) (.tup (ns.map D.int)) v:=by
 refine⟨_,.ref a,m,rfl,?_⟩;rw[Den];refine⟨a,ns.map V.int,rfl,.inr ⟨_,its,n,l,rfl,rfl,?_,zHQ h⟩,DenL.ints ns⟩;have e:=congrArg List.length h;rw[List.length_map,List.length_map,List.length_map] at e;have e2:its.size=ns.length:=e;rw[e2];exact Nat.le_of_lt (zIx hl)
end DL
end
section
namespace DL
open PySem L2
theorem zPL :evE J (.var i)=varD i:=rfl
theorem zMN :evE J (.glob n x)=zDl J n x:=rfl
theorem zPO :evE J (.neg a)=negD (evE J a):=rfl
theorem zPN :evE J (.not a)=notD (evE J a):=rfl
theorem zG4 :evAnd J (.cons e (.cons a b))=andD (evE J e) (evAnd J (.cons a b)):=rfl
theorem zIg :evOr J (.cons e (.cons a b))=orD (evE J e) (evOr J (.cons a b)):=rfl
theorem zPQ :evE J (.ite c a b)=iteD (evE J c) (evE J a) (evE J b):=rfl
theorem zKZ :evEs J (.cons e es)=zHC (evE J e) (evEs J es):=rfl
theorem zPM :evE J (.tup es)=tupD (evEs J es):=rfl
theorem zPP :evE J (.lst es)=lstD (evEs J es):=rfl
theorem zMO :evE J (.call n f es)=fnD J n f (evEs J es):=rfl
theorem zR0 :evE J (.sl a lo hi)=slD (evE J a) (evO J lo) (evO J hi):=rfl
theorem zRy :evSs J (.cons a b)=seqD (evS J a) (evSs J b):=rfl
theorem zPD :evS J (.set i e)=setD i (evE J e):=rfl
theorem zPF :evS J (.ife c a b)=ifD (asB (evE J c)) (evSs J a) (evSs J b):=rfl
theorem zPE :evS J (.ret e)=retD (evE J e):=rfl
theorem zPR :evE J (.chn op op' a b c)=chD (cmpD op) (cmpD op') (evE J a) (evE J b) (evE J c):=rfl
def EvP {U:Type}(o:Option U)(Q:U->Prop):Prop:=∃ r,o=some r/\Q r
section
variable {U Z:Type}{J:Gm}{O:Dst}
theorem EvP.bind {o:Option U}{f:U->Option Z}{Q:Z->Prop}(h:EvP o λa=>EvP (f a) Q):EvP (o.bind f) Q:=by
 obtain⟨a,e,b,e2,q⟩:=h;exact⟨b,by rw[e];exact e2,q⟩
theorem EvP.eq {o:Option U}{r:U}(h:EvP o λx=>x=r):o=some r:=by
 obtain⟨x,e,rfl⟩:=h;omega
theorem EvP.imp {o:Option U}{Q Q':U->Prop}(h:EvP o Q)(i:∀ x,Q x->Q' x):EvP o Q':=by
 obtain⟨x,e,q⟩:=h;exact⟨x,e,i x q⟩
def CB (b:Bool)(A B:Prop):Prop:=if b=true then A else B
theorem zGO [Decidable p](h1:p->A)(h2:¬ p->B):CB (decide p) A B:=by
 unfold CB;grind
theorem cb_t (h:A):CB true A B:=h
theorem cb_f (h:B):CB false A B:=by assumption
variable {Q:R->Prop}
theorem zAZ (e:O[i]?=some (some (d,false)))(h:Q (d,.cl)):EvP (evE J (.var i) O) Q:=by
 rw[zPL];unfold varD;rw[e];exact⟨_,rfl,h⟩
theorem zMF (e:O[i]?=some (some (.lam j L dl,false)))(el:J.lm[j]?=some (L,F))(h:EvP (evE J a O) λx=>x.2≠.dt/\EvP (F (x.1::dl)) λr=>r.2≠.dt/\Q r):EvP (evE J (.callv i a) O) Q:=by
 obtain⟨x,ex,nx,r,er,nr,q⟩:=h;refine⟨r,?_,q⟩;show zEQ J.lm J.fns i _ O=_;unfold zEQ;have e3:lamF J.lm j L (x.1::dl)=some r:=by unfold lamF;rw[el];exact(if_pos rfl).trans er
 simp_all
theorem zFc (e:J.cs[n]?=some (x,d))(h:Q (d,.cl)):EvP (evE J (.glob n x) O) Q:=by
 rw[zMN];unfold zDl;rw[e];exact⟨_,if_pos rfl,h⟩
theorem zAb (h:Q (.int i,.cl)):EvP (evE J (.int i) O) Q:=⟨_,rfl,h⟩
theorem zPA (h:Q (.bl b,.cl)):EvP (evE J (.bl b) O) Q:=⟨_,rfl,h⟩
theorem zHr (h:Q (.non,.cl)):EvP (evE J .non O) Q:=⟨_,rfl,h⟩
theorem zKH (h:EvP (f O) λx=>EvP (g O) λy=>EvP (o x.1 y.1) Q):EvP (two f g o O) Q:=EvP.bind (h.imp λ_ q=>EvP.bind q)
theorem zBJ (h:EvP (evE J a O) λx=>EvP (evE J b O) λy=>EvP (binD op x.1 y.1) Q):EvP (evE J (.bin op a b) O) Q:=zKH h
theorem zCc (h:EvP (evE J a O) λx=>EvP (evE J b O) λy=>EvP (cmpD op x.1 y.1) Q):EvP (evE J (.cmp op a b) O) Q:=zKH h
theorem zEI (h:EvP (evE J a O) λx=>EvP (evE J b O) λy=>EvP (ixD x.1 y.1) Q):EvP (evE J (.ix a b) O) Q:=zKH h
theorem zKL (h:EvP (f O) λx=>EvP (o x.1) Q):EvP (one f o O) Q:=EvP.bind h
theorem zCo (h:EvP (evE J a O) λx=>EvP (lenD x.1) Q):EvP (evE J (.len a) O) Q:=zKL h
theorem zKN (h:EvP (evE J a O) λx=>EvP (zIX x.1) Q):EvP (evE J (.list a) O) Q:=zKL h
theorem zNS (h:EvP (evE J a O) λx=>EvP (isiF t x.1) Q):EvP (evE J (.isi t a) O) Q:=zKL h
theorem zSl (h:Q (.bl true,.cl)):EvP (isiF .int (.int i)) Q:=⟨_,rfl,h⟩
theorem zSm (h:Q (.bl false,.cl)):EvP (isiF .bool (.int i)) Q:=⟨_,rfl,h⟩
theorem zQz (h:Q (.bl true,.cl)):EvP (isiF .list (.lst ds)) Q:=⟨_,rfl,h⟩
theorem zRu (h:EvP (evE J a O) λx=>∃ i,x.1=.int i/\Q (.int (-i),.cl)):EvP (evE J (.neg a) O) Q:=by
 obtain⟨⟨d,k⟩,e,i,ei,q⟩:=h;cases ei;rw[zPO];unfold negD;rw[e];exact⟨_,rfl,q⟩
theorem zGT {f:Dst->Option R}{b:Bool}{k:Kd}(e:f O=some (.bl b,k)):asB f O=some b:=by unfold asB;rw[e]
theorem zKM (h:EvP (evE J a O) λx=>∃ b,x.1=.bl b/\Q (.bl (!b),.cl)):EvP (evE J (.not a) O) Q:=by
 obtain⟨⟨d,k⟩,e,b,eb,q⟩:=h;cases eb;rw[zPN];unfold notD;rw[zGT e];exact⟨_,rfl,q⟩
theorem zKP (h:EvP (evAnd J es O) Q):EvP (evE J (.andl es) O) Q:=h
theorem zKI (h:EvP (evOr J es O) Q):EvP (evE J (.orl es) O) Q:=h
theorem zKR (h:EvP (evE J e O) Q):EvP (evAnd J (.cons e .nil) O) Q:=h
theorem zKK (h:EvP (evE J e O) Q):EvP (evOr J (.cons e .nil) O) Q:=h
theorem zKQ (h:EvP (evE J e O) λx=>∃ k,x.1=.bl k/\CB k (EvP (evAnd J (.cons a b) O) Q) (Q (.bl false,.cl))):EvP (evAnd J (.cons e (.cons a b)) O) Q:=by
 obtain⟨⟨d,kd⟩,e,k,ek,q⟩:=h;cases ek;rw[zG4];unfold andD;rw[zGT e];cases k with
 | true=>exact q
 | false=>exact⟨_,rfl,by unfold CB at q;exact q⟩
theorem zKJ (h:EvP (evE J e O) λx=>∃ k,x.1=.bl k/\CB k (Q (.bl true,.cl)) (EvP (evOr J (.cons a b) O) Q)):EvP (evOr J (.cons e (.cons a b)) O) Q:=by
 obtain⟨⟨d,kd⟩,e,k,ek,q⟩:=h;cases ek;rw[zIg];unfold orD;rw[zGT e];cases k with
 | true=>exact⟨_,rfl,q⟩
 | false =>
  assumption
theorem zRv (h:EvP (evE J c O) λx=>∃ k,x.1=.bl k/\CB k (EvP (evE J a O) Q) (EvP (evE J b O) Q)):EvP (evE J (.ite c a b) O) Q:=by
 obtain⟨⟨d,kd⟩,e,k,ek,q⟩:=h;cases ek;rw[zPQ];unfold iteD;rw[zGT e];cases k with
 | true=>exact q
 | false =>
  assumption
theorem zBW {Q:List D->Prop}(h:Q []):EvP (evEs J .nil O) Q:=⟨_,rfl,h⟩
theorem zAk {Q:List D->Prop}(h:EvP (evE J e O) λx=>x.2≠.dt/\EvP (evEs J es O) λxs=>Q (x.1::xs)):EvP (evEs J (.cons e es) O) Q:=by
 rw[zKZ];obtain⟨x,e,nd,xs,e2,q⟩:=h;exact⟨_,by unfold zHC;rw[e];show (if x.2=.dt then none else _)=_;rw[if_neg nd,e2];rfl,q⟩
theorem zRs (h:EvP (evEs J es O) λxs=>xs.length<=10000/\Q (.tup xs,.cl)):EvP (evE J (.tup es) O) Q:=by
 rw[zPM];obtain⟨xs,e,l,q⟩:=h;exact⟨_,by unfold tupD;rw[e];exact if_pos l,q⟩
theorem zNR (h:EvP (evEs J es O) λxs=>xs.length<=10000/\Q (.lst xs,.fr)):EvP (evE J (.lst es) O) Q:=by
 rw[zPP];obtain⟨xs,e,l,q⟩:=h;exact⟨_,by unfold lstD;rw[e];exact if_pos l,q⟩
theorem zA5 (e:J.fns[n]?=some (f,F))(h:EvP (evEs J es O) λds=>EvP (F ds) λr=>r.2≠.dt/\Q r):EvP (evE J (.call n f es) O) Q:=by
 rw[zMO];unfold fnD;obtain⟨ds,e1,r,e2,nd,q⟩:=h;refine⟨r,?_,q⟩;unfold zIi
 simp_all
theorem zRt (h:EvP (evE J a O) λx=>EvP (evO J lo O) λl=>EvP (evO J hi O) λu=>∃ ds,x.1=.lst ds/\Q (.lst (cutD ds l u),.fr)):EvP (evE J (.sl a lo hi) O) Q:=by
 rw[zR0];obtain⟨⟨d,k⟩,e,l,e1,u,e2,ds,ed,q⟩:=h;cases ed;exact⟨_,by unfold slD;rw[e];rw[e1];rw[e2];rfl,q⟩
theorem zHJ (h:Q (.int (i+j),.cl)):EvP (binD .Add (.int i) (.int j)) Q:=⟨_,rfl,h⟩
theorem zES (l:IntMulOk i j)(h:Q (.int (i*j),.cl)):EvP (binD .Mult (.int i) (.int j)) Q:=⟨_,by show mulD i j=_;exact if_pos l,h⟩
theorem zHI (l:zMl i j)(h:Q (.int (i.fdiv j),.cl)):EvP (binD .FloorDiv (.int i) (.int j)) Q:=⟨_,by show zO8 i j=_;exact if_pos l,h⟩
theorem zC5 (l:j≠0)(h:Q (.int (i.fmod j),.cl)):EvP (binD .Mod (.int i) (.int j)) Q:=⟨_,if_neg l,h⟩
theorem c_lt (h:Q (.bl (decide (i < j)),.cl)):EvP (cmpD .Lt (.int i) (.int j)) Q:=⟨_,rfl,h⟩
theorem c_gt (h:Q (.bl (decide (j < i)),.cl)):EvP (cmpD .Gt (.int i) (.int j)) Q:=⟨_,rfl,h⟩
theorem c_ge (h:Q (.bl (decide (j<=i)),.cl)):EvP (cmpD .GtE (.int i) (.int j)) Q:=⟨_,rfl,h⟩
theorem zSH (i j:Int):EqOk (.int i) (.int j):=⟨by rfl,by rw[toPy];rfl,by rw[toPy];exact zero_le _⟩
theorem zS3 (i j:Int):eqb (.int i) (.int j)=decide (i=j):=rfl
theorem zHG (h:Q (.bl (decide (i=j)),.cl)):EvP (cmpD .Eq (.int i) (.int j)) Q:=⟨_,by show eqD id _ _=_;rfl,h⟩
theorem c_eq (l:EqOk x y)(h:Q (.bl (eqb x y),.cl)):EvP (cmpD .Eq x y) Q:=⟨_,by show eqD id _ _=_;exact if_pos l,h⟩
theorem c_ne (l:EqOk x y)(h:Q (.bl (!eqb x y),.cl)):EvP (cmpD .NotEq x y) Q:=⟨_,by show eqD _ _ _=_;exact if_pos l,h⟩
theorem zQ3 (e:atI ds i=some d)(h:Q (d,.cl)):EvP (ixD (.tup ds) (.int i)) Q:=⟨_,by show (atI ds i).map _=_;rw[e];rfl,h⟩
theorem zEE (e:atI ds i=some d)(h:Q (d,.cl)):EvP (ixD (.lst ds) (.int i)) Q:=⟨_,by show (atI ds i).map _=_;rw[e];rfl,h⟩
theorem zEX (h:Q (.int ds.length,.cl)):EvP (lenD (.lst ds)) Q:=⟨_,rfl,h⟩
theorem zMq (h:Q (.lst ds,.fr)):EvP (zIX (.lst ds)) Q:=⟨_,rfl,h⟩
end
section
variable {J:Gm}{O:Dst}{Q:Out->Prop}
def Kt (J:Gm)(rest:S)(Q:Out->Prop):Out->Prop
 | .nx O2=>EvP (evSs J rest O2) Q
 | o=>Q o
theorem k_nx (h:EvP (evSs J rest O) Q):Kt J rest Q (.nx O):=h
theorem k_rt (h:Q (.rt r)):Kt J rest Q (.rt r):=h
theorem zRr (h:Q (.nx O)):EvP (evSs J .nil O) Q:=⟨_,rfl,h⟩
theorem zRq (h:EvP (f O) λo=>match o with | .nx O2=>EvP (g O2) Q | o=>Q o):EvP (seqD f g O) Q:=by
 obtain⟨o,e,q⟩:=h;unfold seqD;rw[e];cases o with
 | nx O2=>exact q
 | rt r=>exact⟨_,rfl,q⟩
 | bk O2=>exact⟨_,rfl,q⟩
 | ct O2=>exact⟨_,rfl,q⟩
theorem zFb (h:EvP (evS J a O) (Kt J b Q)):EvP (evSs J (.cons a b) O) Q:=by
 refine zRq (h.imp λo q=>?_)
 assumption
noncomputable def ownK:Kd->Option Bool
 | .cl=>some false
 | .fr=>some true
 | .dt=>none
theorem zR1 (h:EvP (evE J e O) λr=>∃ o,ownK r.2=some o/\Q (.nx (O.set i (some (r.1,o))))):EvP (evS J (.set i e) O) Q:=by
 rw[zPD];obtain⟨⟨d,k⟩,e,o,eo,q⟩:=h;unfold setD;rw[e];cases k with
 | cl=>cases eo;exact⟨_,rfl,q⟩
 | fr=>cases eo;exact⟨_,rfl,q⟩
 | dt=>cases eo
theorem zKa (h:EvP (evE J c O) λx=>∃ k,x.1=.bl k/\CB k (EvP (evSs J a O) Q) (EvP (evSs J b O) Q)):EvP (evS J (.ife c a b) O) Q:=by
 rw[zPF];obtain⟨⟨d,kd⟩,e,k,ek,q⟩:=h;cases ek;unfold ifD;rw[zGT e];cases k with
 | true=>exact q
 | false =>
  assumption
theorem zNT (h:EvP (evE J e O) λr=>r.2≠.dt/\Q (.rt r)):EvP (evS J (.ret e) O) Q:=by
 rw[zPE];obtain⟨r,e,nd,q⟩:=h;exact⟨_,by unfold retD;rw[e];exact if_neg nd,q⟩
def Kd' (Q:R->Prop):Out->Prop
 | .rt r=>Q r
 | .nx _=>Q (.non,.cl)
 | _=>False
theorem zKF {Q:R->Prop}(h1:ds.length=np)(h2:np<=nN)(h:EvP (evSs J b (ds.map (λd=>some (d,false))++List.replicate (nN - np) none)) (Kd' Q)):EvP (dFun np nN (evSs J b) ds) Q:=by
 unfold dFun;rw[if_pos ⟨h1,h2⟩];obtain⟨o,e,q⟩:=h;rw[e];cases o with
 | rt r=>exact⟨_,rfl,q⟩
 | nx _=>exact⟨_,rfl,q⟩
 | bk _=>exact q.elim
 | ct _=>exact q.elim
theorem zSk {Q:R->Prop}(h:Q r):Kd' Q (.rt r):=h
end
section
variable {J:Gm}{O:Dst}{Q:R->Prop}
theorem zRx (h:EvP (evE J a O) λx=>EvP (evE J b O) λy=>EvP (cmpD op x.1 y.1) λr=>∃ k,r.1=.bl k/\CB k (EvP (evE J c O) λz=>EvP (cmpD op' y.1 z.1) Q) (Q (.bl false,.cl))):EvP (evE J (.chn op op' a b c) O) Q:=by
 rw[zPR];obtain⟨x,ex,y,ey,⟨d,kd⟩,er,k,ek,q⟩:=h;cases ek;unfold chD;rw[ex,ey];show EvP (match cmpD op x.1 y.1 with | some (.bl true,_)=>(evE J c O).bind λz=>cmpD op' y.1 z.1 | some (.bl false,_)=>some _ | _=>none) Q;rw[er];cases k with
 | true=>exact EvP.bind q
 | false=>unfold CB at q;exact⟨_,rfl,q⟩
end
end DL
end
section
namespace DM
abbrev Pt:=Rat×Rat
abbrev Ln:=Rat×Rat×Rat
noncomputable def hq (L:Ln)(p:Pt):Rat:=L.1*p.1+L.2.1*p.2 - L.2.2
noncomputable def pw (x y t:Rat):Rat:=x+t*(y - x)
def zR7 (u v:Rat):Prop:=(0 < u/\v < 0)\/(u < 0/\0 < v)
noncomputable instance (u v:Rat):Decidable (zR7 u v):=inferInstanceAs (Decidable (_\/_))
def zS9 (w h:Nat)(s:Pt×Pt)(m:Rat):Prop:=(0<=pw s.1.2 s.2.2 m/\pw s.1.2 s.2.2 m < h)/\pw s.1.1 s.2.1 m < w
noncomputable instance (w h:Nat) (s:Pt×Pt):DecidablePred (zS9 w h s):=λm=>inferInstanceAs (Decidable (_/\_))
end DM
end
section
namespace DL
open PySem L2
def Bd (n:Nat)(i:Int):Prop:=i.natAbs < 2^n
theorem zKx (h:Bd n i):Builtin.Int.intBits i<=n:=by
 unfold Builtin.Int.intBits;split
 .simp
 .rename_i hz;have hp:i.natAbs≠0:=by
   grind
  exact(Nat.log2_lt hp).mpr h
theorem zHd (h:j.natAbs < 2^64):IntMulOk i j:=IntMulOk.of_right (zKx h)
theorem zDc (h:i.natAbs < 2^64):IntMulOk i j:=IntMulOk.of_left (zKx h)
noncomputable def ratD (q:Rat):D:=.tup [.int q.num,.int (q.den:Int)]
structure RB (n:Nat)(q:Rat):Prop where
 num:Bd n q.num
 den:Bd n (q.den:Int)
theorem x_bl {P:Bool->Prop}(h:P b):∃ c,((D.bl b,k):R).1=.bl c/\P c:=⟨b,rfl,h⟩
theorem zSI {P:Int->Prop}(h:P i):∃ j,((D.int i,k):R).1=.int j/\P j:=⟨i,rfl,h⟩
theorem x_cl {P:Bool->Prop}(h:P false):∃ o,ownK ((d,Kd.cl):R).2=some o/\P o:=⟨false,rfl,h⟩
theorem n_cl (h:P):((d,Kd.cl):R).2≠.dt/\P:=by grind
theorem n_fr (h:P):((d,Kd.fr):R).2≠.dt/\P:=by grind
end DL
end
open PySem L2 DL
open PySem L2 DL
local macro_rules | `(tactic| walk_at "s")=>`(tactic| simp only [List.set_cons_zero,List.set_cons_succ])
local macro_rules | `(tactic| walk_at "ev")=>`(tactic| first
 | ((with_reducible show EvP (evE _ (E.var _) _) _);first | refine zAZ rfl ?_ | refine ev_vo rfl ?_)
 | (with_reducible first | refine zAb ?_ | refine zPA ?_ | refine zBJ ?_ | refine zCc ?_ | refine zEI ?_ | refine zRs ?_ | refine zNR ?_ | refine zCo ?_ | refine ev_abs ?_ | refine zRu ?_ | refine zKM ?_ | refine zNS ?_ | refine zSl ?_ | refine zSm ?_ | refine is_bb ?_ | refine is_tt ?_ | refine zQz ?_ | refine is_tr ?_ | refine zKP ?_ | refine zKI ?_ | refine zKR ?_ | refine zKQ ?_ | refine zKK ?_ | refine zKJ ?_ | refine zRv ?_ | refine zBW ?_ | refine zAk ?_ | refine ls_nil ?_ | refine ls_cons ?_ | refine zKN ?_ | refine ev_max ?_ | refine ev_min ?_ | refine zRt ?_ | refine eo_nil ?_ | refine eo_some ?_ | refine zHr ?_ | refine ev_str ?_ | refine zHJ ?_ | refine b_sub ?_ | refine c_lt ?_ | refine c_le ?_ | refine c_gt ?_ | refine c_ge ?_ | refine zHG ?_ | refine c_neI ?_ | refine c_eqB ?_ | refine c_neB ?_ | refine i_num ?_ | refine i_den ?_ | refine zEX ?_ | refine l_tup ?_ | refine l_rat ?_ | refine a_int ?_ | refine zMq ?_ | refine t_listT ?_ | refine m_max ?_ | refine m_min ?_ | refine zRr ?_ | refine zFb ?_ | refine zR1 ?_ | refine es_setC ?_ | refine zKa ?_ | refine zNT ?_ | refine es_retN ?_ | refine es_drop ?_ | refine es_whl ?_ | refine es_for1 ?_ | refine es_for2 ?_ | refine sr_it ?_ | refine sr_r1 ?_ | refine sr_r2 ?_ | refine sr_r3 ?_ | refine ev_comp1 ?_ | refine ev_lzip ?_ | refine w_cl ?_ | refine w_fr ?_ | refine w_tu ?_) | ((with_reducible refine k_nx ?_);try (walk_at "s")) | (with_reducible first | refine k_rt ?_ | refine k_bk ?_ | refine k_ct ?_ | refine zSk ?_ | refine kd_nx ?_ | refine y_cl ?_ | refine y_fr ?_ | refine y_l ?_ | refine y_t ?_ | refine fo_nil ?_) | ((with_reducible refine kf_nx ?_);try (walk_at "s")) | (with_reducible first | refine kf_ct ?_ | refine kf_bk ?_ | refine kf_rt ?_ | refine fl_b ?_ | refine fl_i ?_ | refine cb_t ?_ | refine cb_f ?_ | refine cb_not ?_ | refine x_bl ?_ | refine zSI ?_ | refine x_cl ?_ | refine x_fr ?_ | refine n_cl ?_ | refine n_fr ?_)
 | ((with_reducible show EvP (forD (tg1 _) _ (_::_) _) _);refine fo_cons rfl ?_;try (walk_at "s")) | ((with_reducible show EvP (ixD (D.lst (_::_)) (D.int _)) _);refine zEE rfl ?_)
 | ((with_reducible show List.length _<=10000/\_);refine⟨zzb rfl,?_⟩) | ((with_reducible show EvP (evE _ (E.call _ _ _) _) _);refine zA5 rfl ?_) | ((with_reducible show EvP (evE _ (E.lend _ _ _) _) _);refine ev_lend rfl ?_) | ((with_reducible show EvP (evE _ (E.glob _ _) _) _);refine zFc rfl ?_)
 | ((with_reducible show EvP (ixD (D.tup _) (D.int _)) _);refine zQ3 rfl ?_) | ((with_reducible show EvP (evS _ (S.retOwn _) _) _);refine es_retOwn rfl ?_) | ((with_reducible show EvP (evSs _ (S.frz _ _) _) _);first | refine ex_frz0 rfl ?_ | (refine ex_frz rfl ?_;try (walk_at "s"))))
local macro_rules | `(tactic| walk_at "st")=>`(tactic| simp only [map_cons,map_nil,List.cons_append,List.nil_append,replicate_succ,List.replicate_zero,Nat.reduceSub,append_nil,List.replicate])
section
namespace DL
open PySem L2
end DL
end
open PySem L2 DL
local macro_rules | `(tactic| walk_at "w")=>`(tactic| (repeat walk_at "ev"))
section
namespace DL
open PySem L2
noncomputable def zIl:S:=.cons (.ret (.andl (.cons (.isi .int (.var 0)) (.cons (.not (.isi .bool (.var 0))) .nil)))) .nil
theorem zK6 (h:Q (.bl true,.cl)):EvP (dFun 1 1 (evSs J zIl) [.int i]) Q:=by
 refine zKF rfl (by simp) ?_;unfold zIl
 repeat walk_at "ev"
 exact h
def zSC (F:List D->Option R):Prop:=∀ (i:Int) (Q:R->Prop),Q (.bl true,.cl)->EvP (F [.int i]) Q
noncomputable def cel (ns:List Int)(k:Int):Int :=
 if k < (ns.length:Int) then ns.getD k.toNat 0 else
  let seed:=if (0:Int) < (ns.length:Int) then k*7919+(ns.getD (k.fmod (ns.length:Int)).toNat 0).fmod 65537 else k*7919
  let some:=(seed*48271).fmod 65537
  ((some*(some+2*k+1)).fdiv 7).fmod 65521
noncomputable def zPa:S:=.cons (.ife (.cmp .Lt (.var 1) (.len (.var 0))) (.cons (.ret (.ix (.var 0) (.var 1))) .nil) .nil) (.cons (.set 2 (.bin .Mult (.var 1) (.int 7919))) (.cons (.ife (.cmp .Gt (.len (.var 0)) (.int 0)) (.cons (.set 2 (.bin .Add (.var 2) (.bin .Mod (.ix (.var 0) (.bin .Mod (.var 1) (.len (.var 0)))) (.int 65537)))) .nil) .nil) (.cons (.set 3 (.bin .Mod (.bin .Mult (.var 2) (.int 48271)) (.int 65537))) (.cons (.ret (.bin .Mod (.bin .FloorDiv (.bin .Mult (.var 3) (.bin .Add (.bin .Add (.var 3) (.bin .Mult (.int 2) (.var 1))) (.int 1))) (.int 7)) (.int 65521))) .nil))))
noncomputable def scr (ns:List Int):D:=.lst (ns.map D.int)
theorem zMs {ns:List Int}(h0:0<=k)(h1:k < (ns.length:Int)):atI (ns.map D.int) k=some (.int (ns.getD k.toNat 0)):=by
 have ek:k=((k.toNat:Nat):Int):=by omega
 have q:atI (ns.map D.int) _=some (.int (ns.getD k.toNat 0)):=zCZ (by
  rw[getElem?_map,List.getD_eq_getElem?_getD,getElem?_eq_getElem (by omega)]
  rfl)
 grind
def zSE (F:List D->Option R):Prop:=∀ (ns:List Int) (k:Int) (Q:R->Prop),0<=k->Q (.int (cel ns k),.cl)->EvP (F [scr ns,.int k]) Q
theorem zFs (x:Int)(h0:0 < m)(h1:m < 2^64):(x.fmod m).natAbs < 2^64:=by
 have a:=xX x h0;have b:=fmod_lt_of_pos x h0;omega
theorem zDG (h:j≠0)(h2:j.natAbs < 2^64):zMl i j:=h
theorem zPZ :zSE (dFun 2 4 (evSs J zPa)):=λns k Q h0 h=>by
 refine zKF rfl (by decide) ?_;unfold zPa;have el:((ns.map D.int).length:Int)=(ns.length:Int):=by rw[List.length_map]
 refine zFb (zKa (zCc (zAZ rfl (zCo (zAZ rfl ?_)))));show EvP (lenD (.lst (ns.map D.int))) _;(walk_at "w");rw[el];refine zGO (λc=>?_) λc=>?_
 .refine zFb (zNT (zEI (zAZ rfl (zAZ rfl ?_))));show EvP (ixD (.lst (ns.map D.int)) (.int k)) _;refine zEE (zMs h0 c) ?_;have e:cel ns k=ns.getD k.toNat 0:=by unfold cel;rw[if_pos c]
  rw[e] at h;(walk_at "w");exact h
 .unfold cel at h;rw[if_neg c] at h;(walk_at "w");refine zES (zHd (by decide)) ?_;(walk_at "w");refine(show EvP (lenD (.lst (ns.map D.int))) _ from ?_);(walk_at "w");rw[el];refine zGO (λc2=>?_) λc2=>?_
  .rw [if_pos c2] at h;(walk_at "w");refine(show EvP (lenD (.lst (ns.map D.int))) _ from ?_);(walk_at "w");rw[el];refine zC5 (by omega) ?_;refine(show EvP (ixD (.lst (ns.map D.int)) (.int (k.fmod (ns.length:Int)))) _ from ?_);refine zEE (zMs (xX k c2) (fmod_lt_of_pos k c2)) ?_;(walk_at "w");refine zC5 (by decide) ?_;(walk_at "w");refine zES (zHd (by decide)) ?_;(walk_at "w");refine zC5 (by decide) ?_;(walk_at "w");refine zES (zDc (by decide)) ?_;(walk_at "w");refine zES (zDc (zFs _ (by decide) (by decide))) ?_;(walk_at "w");refine zHI (zDG (by decide) (by decide)) ?_;(walk_at "w");refine zC5 (by decide) ?_;(walk_at "w");exact h
  .rw [if_neg c2] at h;(walk_at "w");refine zES (zHd (by decide)) ?_;(walk_at "w");refine zC5 (by decide) ?_;(walk_at "w");refine zES (zDc (by decide)) ?_;(walk_at "w");refine zES (zDc (zFs _ (by decide) (by decide))) ?_;(walk_at "w");refine zHI (zDG (by decide) (by decide)) ?_;(walk_at "w");refine zC5 (by decide) ?_;(walk_at "w");exact h
mutual
theorem zHt:∀ d:D,PyData.eqv (toPy d) (toPy d)=true
 | .non=>by simp[toPy,PyData.eqv]
 | .bl b=>by simp[toPy,PyData.eqv]
 | .int i=>by simp[toPy,PyData.eqv]
 | .str x=>by simp[toPy,PyData.eqv]
 | .tup ds=>by
  rw[toPy,PyData.eqv];exact eqbL_self ds
 | .lst ds=>by
  rw[toPy,PyData.eqv];exact eqbL_self ds
 | .exc _=>by simp[toPy,PyData.eqv]
 | .dct _=>by simp[toPy,PyData.eqv]
 | .lam _ _ _=>by simp[toPy,PyData.eqv]
 | .obj _ _ _=>by simp[toPy,PyData.eqv]
 | .fn _ _=>by simp[toPy,PyData.eqv]
theorem eqbL_self:∀ ds:List D,PyData.eqvAll (toPyL ds) (toPyL ds)=true
 | []=>by simp[toPyL,PyData.eqvAll]
 | d::ds=>by
  rw[toPyL,PyData.eqvAll,zHt d,eqbL_self ds]
  rfl
end
theorem zHu (d:D):eqb d d=true:=zHt d
def DOk (k:Nat)(d:D):Prop:=(toPy d).canLay0=true/\(toPy d).depth<=k
theorem zG6 (i:Int):DOk k (.int i):=⟨by simp[toPy,PyData.canLay0],by simp[toPy,PyData.depth]⟩
theorem zG7 :∀ {ds:List D},(∀ d∈ds,DOk k d)->PyData.canLayAll0 (toPyL ds)=true/\PyData.depthAll (toPyL ds)<=k
 | [],_=>⟨by simp[toPyL,PyData.canLayAll0],by simp[toPyL,PyData.depthAll]⟩
 | d::ds,h=>by
  have h1:=h d q8;have h2:=zG7 (ds:=ds) λx z=>h x (qY _ z)
  refine⟨by simp[toPyL,PyData.canLayAll0,h1.1,h2.1],?_⟩;simp only[toPyL,PyData.depthAll];exact Nat.max_le.mpr ⟨h1.2,h2.2⟩
theorem zKj (h:∀ d∈ds,DOk k d):DOk (k+1) (.tup ds):=by
 obtain⟨h1,h2⟩:=zG7 h;exact⟨by simp[toPy,PyData.canLay0,h1],by simp only[toPy,PyData.depth];omega⟩
theorem zPW (h:∀ d∈ds,DOk k d):DOk (k+1) (.lst ds):=by
 obtain⟨h1,h2⟩:=zG7 h;exact⟨by simp[toPy,PyData.canLay0,h1],by simp only[toPy,PyData.depth];omega⟩
theorem zPV (q:Rat):DOk 1 (ratD q):=zKj λd h=>by
 rcases mem_cons.mp h with rfl | h
 .exact zG6 _
 .rcases mem_cons.mp h with rfl | h
  .exact zG6 _
  .simp_all
theorem zG5 (hx:DOk m x)(hy:DOk n y)(hm:m<=64):EqOk x y:=⟨hx.1,hy.1,le_trans hx.2 hm⟩
abbrev Pt:=DM.Pt
def PB (n:Nat)(p:Pt):Prop:=RB n p.1/\RB n p.2
theorem zS7 (hd:DOk k d)(hk:k<=64)(h:Q (.bl true,.cl)):EvP (cmpD .Eq d d) Q:=c_eq (zG5 hd hd hk) (by rw[zHu];exact h)
theorem zS6 (hd:DOk k d)(hk:k<=64)(h:Q (.bl false,.cl)):EvP (cmpD .NotEq d d) Q:=c_ne (zG5 hd hd hk) (by rw[zHu];exact h)
theorem zBe (lo:Int)(n:Nat):(rngL lo n).length=n:=by unfold rngL;simp
theorem PB.x (h:PB n p):RB n p.1:=h.1
theorem PB.y (h:PB n p):RB n p.2:=h.2
abbrev Ln:=DM.Ln
end DL
end
open PySem L2 DL
local macro_rules | `(tactic| walk_at "rb")=>`(tactic| first
 | assumption | exact rb_zero | exact rb_one | exact rb_half | exact PB.x (by assumption) | exact PB.y (by assumption) | exact LB.a (by assumption) | exact LB.b (by assumption) | exact LB.c (by assumption)
 | with_reducible apply rb_add | with_reducible apply rb_sub | with_reducible apply rb_mul | with_reducible apply rb_neg | (with_reducible apply rb_quot;assumption))
section
namespace DL
open PySem L2
end DL
end
open PySem L2 DL
local macro_rules | `(tactic| walk_at "ev")=>`(tactic| first
 | (with_reducible first | refine c_eq0 ?_ | refine wr_cl ?_ | refine wr_fr ?_ | refine i_p0 ?_ | refine i_p1 ?_ | refine i_s0 ?_ | refine i_s1 ?_ | refine i_l0 ?_ | refine i_l1 ?_ | refine i_l2 ?_ | refine l_ring ?_ | refine t_ring ?_ | refine is_tp ?_ | refine is_tl ?_ | refine is_lr ?_ | refine l_pt ?_ | refine l_ln ?_ | refine c_eqRat ?_ | refine c_neRat ?_)
 | ((with_reducible show EvP (evE _ (E.call _ _ _) _) _);refine zA5 (by assumption) ?_) | ((with_reducible show EvP (evE _ (E.glob _ _) _) _);refine zFc (by assumption) ?_)
 | ((try dsimp only);with_reducible refine op_go (by assumption) (by (repeat walk_at "rb")) (by (repeat walk_at "rb")) (by omega) ?_))
section
namespace DL
open PySem L2
noncomputable def zGa:S:=.cons (.ife (.chn .Lt .Lt (.neg (.int 1000)) (.var 0) (.int 1000)) (.cons (.ret (.bin .Mod (.bin .Mult (.bin .Add (.bin .Mult (.bin .Add (.var 0) (.int 1000)) (.bin .Add (.bin .Add (.var 0) (.int 1000)) (.bin .Mult (.int 37) (.var 1)))) (.bin .Mult (.int 911) (.var 1))) (.int 48271)) (.int 1000003))) .nil) .nil) (.cons (.ret (.var 0)) .nil)
def zK0 (F:List D->Option R):Prop:=∀ (c k:Int) (Q:R->Prop),0<=k->k<=1000->(∀ x:Int,Q (.int x,.cl))->EvP (F [.int c,.int k]) Q
theorem zIv :zK0 (dFun 2 2 (evSs J zGa)):=λc k Q h0 h1 h=>by
 refine zKF rfl (by decide) ?_;unfold zGa;(walk_at "st");refine zFb (zKa (zRx ?_));(walk_at "w");refine zGO (λc1=>?_) λc1=>?_
 ·(walk_at "w");refine zGO (λc2=>?_) λc2=>?_
  ·(walk_at "w");refine zES (zDc (by decide)) ?_;(walk_at "w");refine zES (zDc (by omega)) ?_;(walk_at "w");refine zES (zDc (by decide)) ?_;(walk_at "w");refine zES (zHd (by decide)) ?_;(walk_at "w");refine zC5 (by decide) ?_;(walk_at "w");exact h _
  ·(walk_at "w");exact h _
 ·(walk_at "w");exact h _
noncomputable def hD (L:Ln):D->D
 | .tup [.tup [.int a,.int b],.tup [.int c,.int e]]=>ratD (DM.hq L (Rat.divInt a b,Rat.divInt c e))
 | d=>d
noncomputable def rowB (np nt ng:Nat):S:=.cons (.set 2 (.lst .nil)) (.cons (.set 3 (.glob ng "NOUGHT")) (.cons (.for1 4 (.r1 (.bin .Sub (.len (.var 0)) (.int 1))) (.cons (.set 3 (.call np "plus" (.cons (.var 3) (.cons (.call nt "total" (.cons (.ix (.var 0) (.var 4)) .nil)) .nil)))) (.cons (.app 2 (.call np "plus" (.cons (.var 3) (.cons (.call nt "total" (.cons (.ix (.var 1) (.bin .Add (.var 4) (.int 1))) .nil)) .nil)))) .nil))) (.cons (.retOwn 2) .nil)))
noncomputable def rsD (qs:List Rat):D:=.tup (qs.map ratD)
theorem zNV (qs:List Rat):DOk 2 (rsD qs):=zKj λd h=>by
 obtain⟨q,_,rfl⟩:=mem_map.mp h;exact zPV q
structure Fm where
 k:Rat
 a:Rat
 r:Rat
 g:Rat
 b:Rat
noncomputable def fmD (f:Fm):D:=rsD [f.k,f.a,f.r,f.g,f.b]
noncomputable def inkD (r g b:Int):D:=.tup [.int r,.int g,.int b]
end DL
end
section
namespace DL
open PySem Spec PyProof.Rows L2
inductive W where
 | dat (d:D) | loc (n:Nat) | tup (l:List W) | obj (c:Str) (ns:List Str) (l:List W) | ob (c:Str) (ns:List Str) (n:Nat) | di (t:Bool) (n:Nat)
noncomputable instance:Inhabited W:=⟨.dat .non⟩
abbrev Mem:=List (List W)
inductive CK where
 | lst | ins (c:Str) (ns:List Str) | dic (t:Bool)
abbrev CA:=Addr×CK
noncomputable def mutK (ns:List Str):Bool:=ns.any λn=>n==("grounds":Str)||n==("shapes":Str)
noncomputable def mutF (fs:List (Str×V)):Bool:=mutK (fs.map (·.1))
noncomputable def fz1:HO->Option HO
 | .tup xs=>some (.tup xs)
 | .frz o u=>some (.frz o u)
 | .ins C dx fs=>if mutF fs=true then none else some (.ins C dx fs)
 | _=>none
noncomputable def fzH (H:Hp):Hp:=λb=>(H b).bind fz1
theorem zRj (h:fz1 o=some u):u=o:=by
 cases o<;>first | cases h;rfl | cases h | skip
 rename_i C dx fs;replace h:(if mutF fs=true then none else some _)=some u:=h;grind
theorem zCn :fzH H b=some o<->H b=some o/\fz1 o=some o:=by
 unfold fzH;constructor
 .intro h;obtain⟨u,e,h⟩:=bind_some h;have:=zRj h
  simp_all
 .simp_all
theorem zBh :Same (fzH H) H:=λb o h=>(zCn.mp h).1
theorem zNP (h:H a=some (.tup xs)):fzH H a=some (.tup xs):=zCn.mpr ⟨h,rfl⟩
theorem zEt (h:H a=some (.frz o u)):fzH H a=some (.frz o u):=zCn.mpr ⟨h,rfl⟩
theorem zHn (h:H a=some (.ins C dx fs))(n:mutF fs=false):fzH H a=some (.ins C dx fs):=zCn.mpr ⟨h,by show (if mutF fs=true then none else some _)=_;rw[n];rfl⟩
theorem zBB (h:Same H H'):Same (fzH H) (fzH H'):=λb o q=>let ⟨q1,q2⟩:=zCn.mp q;zCn.mpr ⟨h _ _ q1,q2⟩
theorem zJ7 (h:H a=some u)(h1:fz1 u=none)(h2:fz1 o=none):fzH (upd H a o)=fzH H:=by
 funext b;unfold fzH;by_cases e:b=a
 .subst e;rw[zAX,h];exact h2.trans h1.symm
 .rw [zAN e]
theorem zNO (h:H a=some (.lst xs)):fzH (upd H a (.lst ys))=fzH H:=zJ7 h rfl rfl
theorem zHw (h:zEJ gs=true):mutF gs=false:=by
 unfold zEJ zKi at h;rw[x8,all_eq_true] at h;unfold mutF mutK;rw[List.any_eq_false];intro n hn z;have q:=h.2 n hn;rw[Bool.or_eq_true,beq_iff_eq,beq_iff_eq] at z;rcases z with rfl | rfl
 .exact absurd q (by decide)
 .exact absurd q (by decide)
abbrev Kp (H H':Hp):Prop:=Same (fzH H) (fzH H')
theorem Kp.refl (H:Hp):Kp H H:=Same.refl _
theorem zP2 {K:W.Frag}(h:SqT K H a xs):SqT K (fzH H) a xs:=by
 rcases h with (h | ⟨o,h⟩) | h
 .exact .inl (.inl (zNP h))
 .exact .inl (.inr ⟨o,zEt h⟩)
 .exact .inr h
mutual
noncomputable def noL:D->Bool
 | .lst _=>false
 | .tup ds=>noLs ds
 | .lam _ _ ds=>noLs ds
 | .obj _ _ ds=>noLs ds
 | .dct _=>false
 | _=>true
noncomputable def noLs:List D->Bool
 | []=>true
 | d::ds=>noL d&&noLs ds
end
section
variable {K:W.Frag}{H:Hp}
mutual
theorem Den.fz:∀ {d:D} {v:V},noL d=true->Den K H d v->Den K (fzH H) d v
 | .non,_,_,h=>by rw[Den] at h ⊢;exact h
 | .bl _,_,_,h=>by rw[Den] at h ⊢;exact h
 | .int _,_,_,h=>by rw[Den] at h ⊢;exact h
 | .str _,_,_,h=>by rw[Den] at h ⊢;exact h
 | .lst _,_,n,_=>by rw[noL] at n;cases n
 | .tup ds,_,n,h=>by
  rw[noL] at n;rw[Den] at h ⊢;obtain⟨a,vs,h1,h2,h3⟩:=h;exact⟨a,vs,h1,zP2 h2,DenL.fz n h3⟩
 | .exc c,_,_,h=>by
  rw[Den] at h ⊢;obtain⟨a,o,u,C,h1,h2,h3⟩:=h;exact⟨a,o,u,C,h1,zEt h2,h3⟩
 | .dct _,_,n,_=>by rw[noL] at n;cases n
 | .lam _ L ds,_,n,h=>by
  rw[noL] at n;rw[Den] at h ⊢;obtain⟨a,vs,h1,⟨cl,pm,c,ctv,oc,u1,g1,g2,g3,g4,g5,g6⟩,h3⟩:=h;exact⟨a,vs,h1,⟨cl,pm,c,ctv,oc,u1,zEt g1,zEt g2,g3,g4,g5,Paired.mapP g6 λ_ _ zy159=>by obtain⟨o,u,k1,k2⟩:=zy159;exact⟨o,u,zEt k1,k2⟩⟩,DenL.fz n h3⟩
 | .obj _ ns ds,_,n,h=>by
  rw[noL] at n;rw[Den] at h ⊢;obtain⟨a,vs,h1,⟨C,dx,gs,g1,g2⟩,h3⟩:=h;exact⟨a,vs,h1,⟨C,dx,gs,zHn g1 (zHw g2.1),g2⟩,DenL.fz n h3⟩
 | .fn _ _,_,_,h=>by rw[Den] at h ⊢;exact h
theorem DenL.fz:∀ {ds:List D} {vs:List V},noLs ds=true->DenL K H ds vs->DenL K (fzH H) ds vs
 | [],_,_,h=>by rw[DenL] at h ⊢;exact h
 | d::ds,_,n,h=>by
  rw[noLs,x8] at n;rw[DenL] at h ⊢;obtain⟨v,ws,h1,h2,h3⟩:=h;exact⟨v,ws,h1,Den.fz n.1 h2,DenL.fz n.2 h3⟩
end
end
mutual
noncomputable def DenW (K:W.Frag)(H:Hp)(U:List CA):W->V->Prop
 | .dat d,v=>Den K (fzH H) d v
 | .loc n,v=>∃ a,U[n]?=some (a,.lst)/\v=.ref a
 | .ob c ns n,v=>∃ a,U[n]?=some (a,.ins c ns)/\v=.ref a
 | .di t n,v=>∃ a,U[n]?=some (a,.dic t)/\v=.ref a
 | .tup ws,v=>∃ a vs,v=.ref a/\fzH H a=some (.tup vs)/\DenWL K H U ws vs
 | .obj c ns ws,v=>∃ a vs,v=.ref a/\zK1 K (fzH H) c ns a vs/\DenWL K H U ws vs
noncomputable def DenWL (K:W.Frag)(H:Hp)(U:List CA):List W->List V->Prop
 | [],vs=>vs=[]
 | w::ws,vs=>∃ v us,vs=v::us/\DenW K H U w v/\DenWL K H U ws us
end
theorem zA7 {Z:List CA}{n:Nat}{a:CA}(h:U[n]?=some a):(U++Z)[n]?=some a:=by rw[getElem?_append_left (zzg h).1];exact h
section
variable {K:W.Frag}{H H':Hp}{U:List CA}
mutual
theorem DenW.monoF (e:zCq (fzH H) (fzH H'))(Z:List CA):∀ {w:W} {v:V},DenW K H U w v->DenW K H' (U++Z) w v
 | .dat _,_,h=>by rw[DenW] at h ⊢;exact h.monoF e
 | .loc n,_,h=>by
  rw[DenW] at h ⊢;obtain⟨a,h1,h2⟩:=h;exact⟨a,zA7 h1,h2⟩
 | .ob c ns n,_,h=>by
  rw[DenW] at h ⊢;obtain⟨a,h1,h2⟩:=h;exact⟨a,zA7 h1,h2⟩
 | .di t n,_,h=>by
  rw[DenW] at h ⊢;obtain⟨a,h1,h2⟩:=h;exact⟨a,zA7 h1,h2⟩
 | .tup ws,_,h=>by
  rw[DenW] at h ⊢;obtain⟨a,vs,h1,h2,h3⟩:=h;exact⟨a,vs,h1,e _ _ h2 (λ_ _ _ z=>nomatch z),DenWL.monoF e Z h3⟩
 | .obj c ns ws,_,h=>by
  rw[DenW] at h ⊢;obtain⟨a,vs,h1,h2,h3⟩:=h;exact⟨a,vs,h1,h2.monoF e,DenWL.monoF e Z h3⟩
theorem DenWL.monoF (e:zCq (fzH H) (fzH H'))(Z:List CA):∀ {ws:List W} {vs:List V},DenWL K H U ws vs->DenWL K H' (U++Z) ws vs
 | [],_,h=>by rw[DenWL] at h ⊢;exact h
 | w::ws,_,h=>by
  rw[DenWL] at h ⊢;obtain⟨v,us,h1,h2,h3⟩:=h;exact⟨v,us,h1,DenW.monoF e Z h2,DenWL.monoF e Z h3⟩
end
theorem DenW.mono (e:Kp H H')(Z:List CA)(h:DenW K H U w v):DenW K H' (U++Z) w v:=h.monoF (λb o q _=>e b o q) Z
theorem DenWL.mono (e:Kp H H')(Z:List CA)(h:DenWL K H U ws vs):DenWL K H' (U++Z) ws vs:=h.monoF (λb o q _=>e b o q) Z
theorem DenW.keep (e:Kp H H')(h:DenW K H U w v):DenW K H' U w v:=by
 have:=h.mono e []
 simp_all
theorem DenWL.keep (e:Kp H H')(h:DenWL K H U ws vs):DenWL K H' U ws vs:=by
 have:=h.mono e []
 simp_all
theorem DenWL.nil:DenWL K H U [] []:=rfl
theorem DenWL.cons (h:DenW K H U w v)(t:DenWL K H U ws vs):DenWL K H U (w::ws) (v::vs):=⟨v,vs,rfl,h,t⟩
theorem DenWL.length:∀ {ws:List W} {vs:List V},DenWL K H U ws vs->ws.length=vs.length
 | [],_,h=>by rw[DenWL] at h;rw[h];rfl
 | _::ws,_,h=>by
  rw[DenWL] at h;obtain⟨v,us,h1,h2,h3⟩:=h;rw[h1,xY,xY,DenWL.length h3]
theorem DenWL.get:∀ {ws:List W} {vs:List V} {i:Nat} {w:W},DenWL K H U ws vs->ws[i]?=some w->∃ v,vs[i]?=some v/\DenW K H U w v
 | [],_,_,_,_,e=>by simp at e
 | x::ws,_,i,w,h,e=>by
  rw[DenWL] at h;obtain⟨v,us,h1,h2,h3⟩:=h;subst h1;cases i with
  | zero=>simp at e;subst e;exact⟨v,by simp,h2⟩
  | succ i =>
   obtain⟨u,q1,q2⟩:=DenWL.get (i:=i) (w:=w) h3 (by simpa using e);exact⟨u,by simpa using q1,q2⟩
theorem DenWL.append:∀ {ws xs:List W} {vs us:List V},DenWL K H U ws vs->DenWL K H U xs us->DenWL K H U (ws++xs) (vs++us)
 | [],_,_,_,h,t=>by rw[DenWL] at h;subst h;exact t
 | _::ws,_,_,_,h,t=>by
  rw[DenWL] at h;obtain⟨v,us',h1,h2,h3⟩:=h;subst h1;exact .cons h2 (DenWL.append h3 t)
theorem DenWL.set (hw:DenW K H U w v):∀ {ws:List W} {vs:List V} (n:Nat),DenWL K H U ws vs->DenWL K H U (ws.set n w) (vs.set n v)
 | [],_,n,h=>by rw[DenWL] at h;subst h;exact .nil
 | _::ws,_,n,h=>by
  rw[DenWL] at h;obtain⟨u,us,h1,h2,h3⟩:=h;subst h1;cases n with
  | zero=>exact .cons hw h3
  | succ n=>exact .cons h2 (DenWL.set hw n h3)
theorem DenWL.dats:∀ {ds:List D} {vs:List V},DenL K (fzH H) ds vs->DenWL K H U (ds.map .dat) vs
 | [],_,h=>by rw[DenL] at h;subst h;exact .nil
 | d::ds,_,h=>by
  rw[DenL] at h;obtain⟨v,us,h1,h2,h3⟩:=h;subst h1;exact .cons (by rw[DenW];exact h2) (DenWL.dats h3)
end
noncomputable def kI:W->Option (List Int)
 | .dat (.int i)=>some [i]
 | .tup [.dat (.int i),.dat (.int j)]=>some [i,j]
 | _=>none
noncomputable def encK:List Int->Option Key
 | [i]=>some (Sum.inl i)
 | _=>none
noncomputable def encT:List Int->Option (List Key)
 | [i,j]=>some [Sum.inl i,Sum.inl j]
 | _=>none
def zBk {c:Type}(K:W.Frag)(H:Hp)(U:List CA)(enc:List Int->Option c):List W->List (c×V)->Prop
 | [],kvs=>kvs=[]
 | w::ws,kvs=>∃ d ks k u v r,w=.tup [d,u]/\kI d=some ks/\enc ks=some k/\kvs=(k,v)::r/\DenW K H U u v/\zBk K H U enc ws r
theorem zBk.monoF {c:Type}{K:W.Frag}{H H':Hp}{U:List CA}{enc:List Int->Option c}(e:zCq (fzH H) (fzH H'))(Z:List CA):∀ {ws:List W} {kvs:List (c×V)},zBk K H U enc ws kvs->zBk K H' (U++Z) enc ws kvs
 | [],_,h=>h
 | _::ws,_,⟨d,ks,k,u,v,r,h1,h2,h3,h4,h5,h6⟩=>⟨d,ks,k,u,v,r,h1,h2,h3,h4,h5.monoF e Z,zBk.monoF e Z h6⟩
theorem zBk.mono {c:Type}{K:W.Frag}{H H':Hp}{U:List CA}{enc:List Int->Option c}(e:Kp H H')(Z:List CA){ws:List W}{kvs:List (c×V)}(h:zBk K H U enc ws kvs):zBk K H' (U++Z) enc ws kvs:=h.monoF (λb o q _=>e b o q) Z
def zBX (K:W.Frag)(H:Hp)(U:List CA)(a:Addr)(ws:List W):CK->Prop
 | .lst=>∃ vs,H a=some (.lst vs)/\DenWL K H U ws vs
 | .ins c ns=>∃ C dx gs,H a=some (.ins C dx gs)/\mutF gs=true/\zB0 K c C/\gs.map (·.1)=ns/\DenWL K H U ws (gs.map (·.2))
 | .dic false=>∃ kvs,H a=some (.dK kvs)/\zBk K H U encK ws kvs
 | .dic true=>∃ kvs,H a=some (.dT kvs)/\zBk K H U encT ws kvs
theorem zBX.monoF {K:W.Frag}(h:zBX K H U a ws k)(e:zCq (fzH H) (fzH H'))(q:H' a=H a)(Z:List CA):zBX K H' (U++Z) a ws k:=by
 match k,h with
 | .lst,⟨vs,h1,h2⟩=>exact⟨vs,q.trans h1,h2.monoF e Z⟩
 | .ins c ns,⟨C,dx,gs,h1,h2,h3,h4,h5⟩=>exact⟨C,dx,gs,q.trans h1,h2,h3,h4,h5.monoF e Z⟩
 | .dic false,⟨kvs,h1,h2⟩=>exact⟨kvs,q.trans h1,h2.monoF e Z⟩
 | .dic true,⟨kvs,h1,h2⟩=>exact⟨kvs,q.trans h1,h2.monoF e Z⟩
theorem zBX.mono {K:W.Frag}(h:zBX K H U a ws k)(e:Kp H H')(q:H' a=H a)(Z:List CA):zBX K H' (U++Z) a ws k:=h.monoF (λb o q _=>e b o q) q Z
theorem zBX.some {K:W.Frag}(h:zBX K H U a ws k):∃ o,H a=some o/\fz1 o=none:=by
 match k,h with
 | .lst,⟨vs,h1,h2⟩=>exact⟨_,h1,rfl⟩
 | .ins c ns,⟨C,dx,gs,h1,h2,h3,h4,h5⟩=>exact⟨_,h1,if_pos h2⟩
 | .dic false,⟨kvs,h1,h2⟩=>exact⟨_,h1,rfl⟩
 | .dic true,⟨kvs,h1,h2⟩=>exact⟨_,h1,rfl⟩
structure zAG (K:W.Frag)(H:Hp)(U:List CA)(G:Mem):Prop where
 len:U.length=G.length
 nd:(U.map (·.1)).Nodup
 at_:∀ (n:Nat) ws,G[n]?=some ws->∃ p:CA,U[n]?=some p/\zBX K H U p.1 ws p.2
structure MS (K:W.Frag)(H:Hp)(U:List CA)(G:Mem)(B:St)(O:List (Option W)):Prop where
 cells:zAG K H U G
 len:B.length=O.length
 get:∀ (i:Nat) w,O[i]?=some (some w)->∃ v,B[i]?=some (some v)/\DenW K H U w v
section
variable {K:W.Frag}{H H':Hp}{U:List CA}{G:Mem}
theorem zAG.cell (c:zAG K H U G){n:Nat}(ha:U[n]?=some (a,k)):∃ ws,G[n]?=some ws/\zBX K H U a ws k:=by
 have hn:n < G.length:=by rw[<- c.len];exact(zzg ha).1
 obtain _:=c.at_ n _ (getElem?_eq_getElem hn)
 simp_all
theorem zAG.cell' (c:zAG K H U G){n:Nat}(ha:U[n]?=some (a,k))(hw:G[n]?=some ws):zBX K H U a ws k:=by
 obtain⟨ws',q1,q2⟩:=c.cell ha;grind
theorem zAG.loc (c:zAG K H U G){n:Nat}(ha:U[n]?=some (a,.lst)):∃ ws vs,G[n]?=some ws/\H a=some (.lst vs)/\DenWL K H U ws vs :=
 let ⟨ws,h1,vs,h2⟩:=c.cell ha;⟨ws,vs,h1,h2⟩
theorem zAG.loc' (c:zAG K H U G){n:Nat}(ha:U[n]?=some (a,.lst))(hw:G[n]?=some ws):∃ vs,H a=some (.lst vs)/\DenWL K H U ws vs:=c.cell' ha hw
theorem zAG.same (h:zAG K H U G)(e:Same H H'):zAG K H' U G :=
 ⟨h.len,h.nd,λn ws q=>let ⟨p,h1,h2⟩:=h.at_ n ws q;let ⟨_,g,_⟩:=h2.some;⟨p,h1,by have:=h2.mono (zBB e) ((e _ _ g).trans g.symm) [];rwa [append_nil] at this⟩⟩
theorem zAG.out (h:zAG K H U G)(hx:H x=some o)(ho:fz1 o=some u):x∉U.map (·.1):=λz=>by
 obtain⟨p,hp,rfl⟩:=mem_map.mp z;obtain⟨i,hi,ei⟩:=List.mem_iff_getElem.mp hp;obtain⟨a',q1,q2⟩:=h.at_ i _ (getElem?_eq_getElem (by rw[<- h.len];exact hi))
 simp_all
 obtain _:=q2.some;grind
theorem zAG.outN (h:zAG K H U G)(hx:H x=none):x∉U.map (·.1):=λz=>by
 obtain⟨p,hp,rfl⟩:=mem_map.mp z;obtain⟨i,hi,ei⟩:=List.mem_iff_getElem.mp hp;obtain⟨a',q1,q2⟩:=h.at_ i _ (getElem?_eq_getElem (by rw[<- h.len];exact hi));obtain _:=q2.some
 simp_all
theorem zAG.more (h:zAG K H U G){a:Addr}{k:CK}{ws:List W}(n:a∉U.map (·.1))(t:zBX K H (U++[(a,k)]) a ws k):zAG K H (U++[(a,k)]) (G++[ws]):=by
 refine⟨by rw[qj,qj,h.len];rfl,?_,λm xs q=>?_⟩
 .rw [xJ,List.nodup_append];refine⟨h.nd,by simp,λb hb c hc=>?_⟩;rw[mem_singleton.mp hc];rintro rfl;exact n hb
 .by_cases lt:m < G.length
  .rw [getElem?_append_left lt] at q;obtain⟨p,q1,q2⟩:=h.at_ m xs q;exact⟨p,zA7 q1,q2.mono (Kp.refl H) rfl _⟩
  .rw [getElem?_append_right (by omega)] at q;have em:m - G.length=0:=by
    have:=(zzg q).1
    simp_all
   rw[em] at q;cases q;exact⟨(a,k),by rw[getElem?_append_right (by rw[h.len];omega),h.len,em];rfl,t⟩
theorem zAG.newG (h:zAG K H U G)(e:Same H H')(n:H a=none)(t:zBX K H' (U++[(a,k)]) a ws k):zAG K H' (U++[(a,k)]) (G++[ws]):=(h.same e).more (h.outN n) t
theorem zAG.new (h:zAG K H U G)(e:Same H H')(n:H a=none)(ha:H' a=some (.lst vs))(t:DenWL K H' (U++[(a,.lst)]) ws vs):zAG K H' (U++[(a,.lst)]) (G++[ws]):=h.newG e n ⟨vs,ha,t⟩
theorem zAG.chgG (h:zAG K H U G)(hn:n < G.length)(ha:U[n]?=some (a,k))(h2:fz1 o=none)(t:Kp H (upd H a o)->zBX K (upd H a o) U a ws k):zAG K (upd H a o) U (G.set n ws)/\Kp H (upd H a o):=by
 have kp:Kp H (upd H a o):=by
  obtain⟨_,_,h4⟩:=h.cell ha;obtain⟨_,g1,g2⟩:=h4.some;show Same _ _;rw[zJ7 g1 g2 h2];exact Same.refl _
 refine⟨⟨by rw[length_set];exact h.len,h.nd,λm xs q=>?_⟩,kp⟩;by_cases e:n=m
 .simp_all
 .rw [getElem?_set_ne e] at q;obtain⟨p,q1,q2⟩:=h.at_ m xs q;have ne:p.1≠a:=by
   rintro rfl;have l1:(U.map (·.1))[n]?=some p.1:=by rw[getElem?_map,ha];rfl
   have l2:(U.map (·.1))[m]?=some p.1:=by rw[getElem?_map,q1];rfl
   obtain⟨i1,e1⟩:=zzg l1;obtain⟨i2,e2⟩:=zzg l2;have pw:=List.pairwise_iff_getElem.mp h.nd;rcases Nat.lt_or_gt_of_ne e with lt | lt
   .exact pw n m i1 i2 lt (e1.trans e2.symm)
   .exact pw m n i2 i1 lt (e2.trans e1.symm)
  have:=q2.mono kp (zAN ne) []
  simp_all
theorem zAG.change (h:zAG K H U G)(hn:n < G.length)(ha:U[n]?=some (a,.lst))(t:DenWL K H U ws vs):zAG K (upd H a (.lst vs)) U (G.set n ws):=(h.chgG hn ha rfl λkp=>⟨vs,zAX,t.keep kp⟩).1
theorem MS.next (h:MS K H U G B O)(e:Kp H H')(c:zAG K H' (U++Z) G'):MS K H' (U++Z) G' B O :=
 ⟨c,h.len,λi w q=>let ⟨v,q1,q2⟩:=h.get i w q;⟨v,q1,q2.mono e Z⟩⟩
theorem MS.set (h:MS K H U G B O)(hw:DenW K H U w v):MS K H U G (B.set i (some v)) (O.set i (some w)):=by
 refine⟨h.cells,by rw[length_set,length_set];exact h.len,λj x q=>?_⟩;rcases zAe q with ⟨rfl,z,hl⟩ | ⟨ne,z⟩
 .cases z;exact⟨v,zBg (by rw[h.len];exact hl),hw⟩
 .obtain _:=h.get j x z
  simp_all
end
noncomputable def datA:List Str->List W->List (Str×D)
 | n::ns,.dat d::ws=>(n,d)::datA ns ws
 | _::ns,_::ws=>datA ns ws
 | _,_=>[]
noncomputable def dobj (c:Str)(ns:List Str)(ws:List W):D:=.obj c ((datA ns ws).map (·.1)) ((datA ns ws).map (·.2))
theorem zHz {K:W.Frag}{gs:List (Str×V)}:∀ {ns:List Str} {ws:List W} {vs:List V},(ns.map λn=>gs.lookup n)=vs.map some->DenWL K H U ws vs->∃ us,(((datA ns ws).map (·.1)).map λn=>gs.lookup n)=us.map some/\DenL K (fzH H) ((datA ns ws).map (·.2)) us
 | [],ws,_,_,_=>⟨[],by unfold datA;rfl,by unfold datA;exact .nil⟩
 | _::_,[],_,_,_=>⟨[],rfl,.nil⟩
 | n::ns,w::ws,vs,h,t=>by
  rw[DenWL] at t;obtain⟨v,us,rfl,t1,t2⟩:=t;simp only[map_cons,List.cons.injEq] at h;obtain⟨zs,z1,z2⟩:=zHz h.2 t2;cases w with
  | dat d =>
   rw[DenW] at t1;refine⟨v::zs,?_,.cons t1 z2⟩;show gs.lookup n::_=some v::_;rw[h.1,<- z1]
  | loc _=>exact⟨zs,z1,z2⟩
  | tup _=>exact⟨zs,z1,z2⟩
  | ob _ _ _=>exact⟨zs,z1,z2⟩
  | di _ _=>exact⟨zs,z1,z2⟩
  | obj _ _ _=>exact⟨zs,z1,z2⟩
theorem zHx {K:W.Frag}(h:DenW K H U (.obj c ns ws) v):Den K (fzH H) (dobj c ns ws) v:=by
 obtain⟨a,vs,rfl,⟨C,dx,gs,h1,h2,h3,h4⟩,h5⟩:=h;obtain⟨us,u1,u2⟩:=zHz h4 h5;exact⟨a,us,rfl,⟨C,dx,gs,h1,h2,h3,u1⟩,u2⟩
mutual
noncomputable def sbW (f:Nat->Option D):W->Option D
 | .dat d=>some d
 | .loc n=>f n
 | .tup ws=>(sbL f ws).map .tup
 | .obj c ns ws=>some (dobj c ns ws)
 | .ob _ _ _=>none
 | .di _ _=>none
noncomputable def sbL (f:Nat->Option D):List W->Option (List D)
 | []=>some []
 | w::ws=>(sbW f w).bind λd=>(sbL f ws).map λds=>d::ds
end
noncomputable def drN (G:Mem):Nat->Nat->Option D
 | 0,_=>none
 | k+1,n=>(G[n]?).bind λws=>(sbL (drN G k) ws).map .lst
noncomputable def drW (G:Mem)(w:W):Option D:=sbW (drN G 6) w
noncomputable def drS (G:Mem)(O:List (Option W)):Dst:=O.map λo=>o.bind λw=>(drW G w).map λd=>(d,false)
section
variable {K:W.Frag}{H:Hp}{U:List CA}{G:Mem}
mutual
theorem zMt {f:Nat->Option D}(hf:∀ n d a,f n=some d->U[n]?=some (a,.lst)->Den K H d (.ref a)):∀ {w:W} {v:V} {d:D},DenW K H U w v->sbW f w=some d->Den K H d v
 | .dat x,v,d,h,e=>by
  rw[sbW] at e;cases e;rw[DenW] at h;exact h.mono zBh
 | .loc n,v,d,h,e=>by
  rw[sbW] at e;rw[DenW] at h;obtain⟨a,h1,rfl⟩:=h;exact hf n d a e h1
 | .tup ws,v,d,h,e=>by
  rw[sbW] at e;obtain⟨ds,e1,rfl⟩:=x9.mp e;rw[DenW] at h;obtain⟨a,vs,rfl,h2,h3⟩:=h;rw[Den];exact⟨a,vs,rfl,SqT.of (zBh _ _ h2),sb_denL hf h3 e1⟩
 | .obj c ns ws,v,d,h,e=>by
  rw[sbW] at e;cases e;exact(zHx h).mono zBh
 | .ob _ _ _,_,_,_,e=>by rw[sbW] at e;cases e
 | .di _ _,_,_,_,e=>by rw[sbW] at e;cases e
theorem sb_denL {f:Nat->Option D}(hf:∀ n d a,f n=some d->U[n]?=some (a,.lst)->Den K H d (.ref a)):∀ {ws:List W} {vs:List V} {ds:List D},DenWL K H U ws vs->sbL f ws=some ds->DenL K H ds vs
 | [],_,_,h,e=>by
  rw[sbL] at e;cases e;rw[DenWL] at h;subst h;exact .nil
 | w::ws,_,_,h,e=>by
  rw[sbL] at e;obtain⟨d,e1,e⟩:=bind_some e;obtain⟨ds,e2,rfl⟩:=x9.mp e;rw[DenWL] at h;obtain⟨v,us,rfl,h2,h3⟩:=h;exact .cons (zMt hf h2 e1) (sb_denL hf h3 e2)
end
theorem zKg (c:zAG K H U G):∀ (k n:Nat) (d:D) (a:Addr),drN G k n=some d->U[n]?=some (a,.lst)->Den K H d (.ref a)
 | 0,_,_,_,e,_=>by cases e
 | k+1,n,d,a,e,ha=>by
  obtain⟨ws,e1,e⟩:=bind_some e;obtain⟨ds,e2,rfl⟩:=x9.mp e;obtain⟨vs,q2,q3⟩:=c.loc' ha e1;rw[Den];exact⟨a,vs,rfl,SqL.of q2,sb_denL (zKg c k) q3 e2⟩
theorem zKd (c:zAG K H U G)(h:DenW K H U w v)(e:drW G w=some d):Den K H d v:=zMt (zKg c 6) h e
theorem zNU (h:MS K H U G B O):DS K H [] B (drS G O):=by
 refine⟨by unfold drS;rw[List.length_map];exact h.len,λa z=>absurd z (by simp),λi d o q=>?_,λi j d e a q1 q2 _ _=>?_⟩
 .unfold drS at q;rw[getElem?_map] at q;obtain⟨x,e1,e2⟩:=x9.mp q;obtain⟨w,rfl,e2⟩:=bind_some e2;obtain⟨d',e3,e4⟩:=x9.mp e2;cases e4;obtain⟨v,q1,q2⟩:=h.get i w e1;exact⟨v,q1,.of_den (by exact zKd h.cells q2 e3)⟩
 .unfold drS at q1;rw[getElem?_map] at q1;obtain⟨x,e1,e2⟩:=x9.mp q1;obtain _:=bind_some e2
  simp_all
end
structure Mst where
 O:List (Option W)
 G:Mem
abbrev MR:=W×Mem
def gM (K:W.Frag)(g:Mst->Option MR):TE:=λB H Q=>∃ U O G r,MS K H U G B O/\g ⟨O,G⟩=some r/\∀ v H' Z,Kp H H'->zAG K H' (U++Z) r.2->DenW K H' (U++Z) r.1 v->Q v H'
def GM (X:Cx)(e:Expr)(g:Mst->Option MR):Prop:=PE X e (gM X.K g)
noncomputable def zGU (r:R)(G:Mem):Option MR:=match r with
 | (d,.cl)=>if noL d=true then some (.dat d,G) else none
 | (.lst es,.fr)=>if noLs es=true then some (.loc G.length,G++[es.map .dat]) else none
 | _=>none
noncomputable def zLg (f:Dst->Option R):Mst->Option MR:=λs=>(f (drS s.G s.O)).bind λr=>zGU r s.G
theorem zH7 {K:W.Frag}(c:zAG K H U G)(e:Same H H')(h:RV K H H' [] r v)(q:zGU r G=some z):∃ Z,zAG K H' (U++Z) z.2/\DenW K H' (U++Z) z.1 v:=by
 unfold zGU at q;split at q
 .rename_i d;by_cases n:noL d=true
  .rw [if_pos n] at q;cases q;refine⟨[],by rw[append_nil];exact c.same e,?_⟩;rw[DenW];have h':Den K (hide H' []) d v:=h;exact h'.fz n
  .rw [if_neg n] at q;cases q
 .rename_i es;by_cases n:noLs es=true
  .rw [if_pos n] at q;cases q;obtain⟨a,vs,ds,rfl,e2,_,e4,e5,t⟩:=h;cases e2;refine⟨[(a,.lst)],c.new e e4 e5 (DenWL.dats ((t.mono zAt).fz n)),?_⟩;rw[DenW];exact⟨a,by show (U++[(a,CK.lst)])[G.length]?=_;rw[getElem?_append_right (by rw[c.len];omega),c.len,sub_self];rfl,rfl⟩
  .rw [if_neg n] at q;cases q
 .cases q
theorem zOs (h:GE X e f):GM X e (zLg f):=h.imp λB H Q zz92=>by
 obtain⟨U,O,G,z,ms,q,c⟩:=zz92;obtain⟨r,er,q⟩:=bind_some q;refine⟨[],drS G O,r,zNU ms,er,λv H' s1 r1=>?_⟩;obtain⟨Z,c1,d1⟩:=zH7 ms.cells s1 r1 q;exact c v H' Z (zBB s1) c1 d1
section
variable {X:Cx}
noncomputable def varM (i:Nat):Mst->Option MR:=λs=>match s.O[i]? with
 | some (some w)=>some (w,s.G)
 | _=>none
theorem zRI (hN:X.N[i]?=some x)(hv:Vis X.env.scope x)(hd:(x==("__debug__":Str))=false)(hcd:(x==("__classdict__":Str))=false):GM X (.Name x pos) (varM i):=by
 refine(zDb hN hv hd hcd).imp λB H Q zz93=>?_
 obtain⟨U,O,G,r,ms,q,c⟩:=zz93;unfold varM at q;split at q
 .rename_i w e;cases q;obtain⟨v,q1,q2⟩:=ms.get i w e;exact⟨v,q1,c v H [] (Kp.refl H) (by rw[append_nil];exact ms.cells) (by simp_all)⟩
 .cases q
abbrev MA:=List W×Mem
def gAM (K:W.Frag)(g:Mst->Option MA):TA:=λB H Q=>∃ U O G r,MS K H U G B O/\g ⟨O,G⟩=some r/\∀ vs H' Z,Kp H H'->zAG K H' (U++Z) r.2->DenWL K H' (U++Z) r.1 vs->Q vs H'
def GAM (X:Cx)(es:List Expr)(g:Mst->Option MA):Prop:=PA X es (gAM X.K g)
noncomputable def nilM:Mst->Option MA:=λs=>some ([],s.G)
theorem zO4:GAM X [] nilM:=zA2.imp λB H Q zz94=>by
 obtain⟨U,O,G,r,ms,q,c⟩:=zz94;cases q;exact c [] H [] (Kp.refl H) (by rw[append_nil];exact ms.cells) .nil
noncomputable def zMc (f:Mst->Option MR)(g:Mst->Option MA):Mst->Option MA:=λs=>(f s).bind λw=>(g ⟨s.O,w.2⟩).bind λws=>some (w.1::ws.1,ws.2)
theorem zMB (ha:GM X e f)(hr:GAM X es g)(hs:starEach (e::es) X.env=(false,eval e X.env)::starEach es X.env):GAM X (e::es) (zMc f g):=by
 refine(zAa ha hr hs).imp λB H Q zz95=>?_
 obtain⟨U,O,G,r,ms,q,c⟩:=zz95;obtain⟨w,e1,q⟩:=bind_some q;obtain⟨ws,e2,q⟩:=bind_some q;cases q;refine⟨U,O,G,w,ms,e1,λv H1 Z1 k1 c1 d1=>⟨U++Z1,O,w.2,ws,ms.next k1 c1,e2,λvs H2 Z2 k2 c2 d2=>?_⟩⟩;refine c _ H2 (Z1++Z2) (k1.trans k2) (by simp_all) (.cons ?_ ?_)
 .rw [<- qJ];exact d1.mono k2 Z2
 .simp_all
noncomputable def lstM (g:Mst->Option MA):Mst->Option MR:=λs=>(g s).bind λr=>if r.1.length<=10000 then some (.loc r.2.length,r.2++[r.1]) else none
noncomputable def tupM (g:Mst->Option MA):Mst->Option MR:=λs=>(g s).bind λr=>if r.1.length<=10000 then some (.tup r.1,r.2) else none
theorem zGs {K:W.Frag}(c:zAG K H U G):DenW K H' (U++[(a,.lst)]) (.loc G.length) (.ref a):=by
 rw[DenW];exact⟨a,by rw[getElem?_append_right (by rw[c.len];omega),c.len,sub_self];rfl,rfl⟩
theorem zRL (h:GAM X es g):GM X (.List es pos) (lstM g):=by
 refine(zM2 h).imp λB H Q zz96=>?_
 obtain⟨U,O,G,r,ms,q,c⟩:=zz96;obtain⟨ws,e1,q⟩:=bind_some q;by_cases hl:ws.1.length<=10000
 .rw [if_pos hl] at q;cases q;refine⟨U,O,G,ws,ms,e1,λvs H1 Z k1 c1 d1=>⟨by rw[<- d1.length];exact zCe hl,λp n=>?_⟩⟩;have s2:Same H1 (upd H1 p (.lst vs)):=zAf n _;refine c _ _ (Z++[(p,.lst)]) (k1.trans (zBB s2)) ?_ ?_
  .rw [<- qJ];exact c1.new s2 n zAX (d1.mono (zBB s2) [(p,.lst)])
  .rw [<- qJ];exact zGs c1
 .simp_all
theorem zRJ {x1}(h:GAM X es g):GM X (.Tuple es x1 pos) (tupM g):=by
 refine(zM1 h).imp λB H Q zz97=>?_
 obtain⟨U,O,G,r,ms,q,c⟩:=zz97;obtain⟨ws,e1,q⟩:=bind_some q;by_cases hl:ws.1.length<=10000
 .rw [if_pos hl] at q;cases q;refine⟨U,O,G,ws,ms,e1,λvs H1 Z k1 c1 d1=>⟨by rw[<- d1.length];exact zCe hl,λp n=>?_⟩⟩;have s2:Same H1 (upd H1 p (.tup vs)):=zAf n _;exact c _ _ Z (k1.trans (zBB s2)) (c1.same s2) (⟨p,vs,rfl,zNP zAX,d1.keep (zBB s2)⟩)
 .simp_all
abbrev MF:=List W->Mem->Option MR
def spM (K:W.Frag)(F:MF):Sp:=λvs H Q _=>∃ U G ws r,zAG K H U G/\DenWL K H U ws vs/\F ws G=some r/\∀ v H' Z,Kp H H'->zAG K H' (U++Z) r.2->DenW K H' (U++Z) r.1 v->Q v H'
noncomputable def zKv (F:MF)(g:Mst->Option MA):Mst->Option MR:=λs=>(g s).bind λws=>F ws.1 ws.2
theorem zKu {F:MF}{g:Mst->Option MA}{B:St}{H:Hp}{Q:VK}(q:gM X.K (zKv F g) B H Q):zK9 (spM X.K F) [] E0 (gAM X.K g) B H Q:=by
 obtain⟨U,O,G,r,ms,q,c⟩:=q;obtain⟨ws,e1,q⟩:=bind_some q;refine⟨U,O,G,ws,ms,e1,λvs H1 Z k1 c1 d1=>?_⟩;simp;exact⟨U++Z,ws.2,ws.1,r,c1,d1,q,λv H2 Z2 k2 c2 d2=>c v H2 (Z++Z2) (k1.trans k2) (by simp_all) (by simp_all)⟩
theorem zOw {k:Nat}{f:Addr}{fd:FuncData}{ps:List Str}{F:MF}{x:Str}{p pos:Pos}{e:Expr}{es:List Expr}{g:Mst->Option MA}(FO:FnOk X.prog X.w X.K X.mg X.base CX0 k f fd ps (spM X.K F))(hr:Room k X.A)(hg:Gl X x)(hm:X.mg x=some (.ref f))
  (hk:W.keepIn X.K (.ref f)=true) (hb:zBb X.K fd ps []) (ha:GAM X (e::es) g) (hdb:(x==("__debug__":Str))=false) (he:starEach (e::es) X.env=(false,eval e X.env)::starEach es X.env) (hpl:∀ pos,(backTo pos (starEach es X.env)).any (·.1)=false) :
  GM X (.Call (.Name x p) (e::es) [] pos) (zKv F g) :=
 (zJE FO hr hg hm hk hb .nil zIJ ha hdb he (hpl pos)).imp λ_ _ _ q=>zKu q
noncomputable def opM (o:D->D->Option R)(x y:W)(G:Mem):Option MR:=(drW G x).bind λa=>(drW G y).bind λb=>(o a b).bind λr=>zGU r G
noncomputable def twoM (f g:Mst->Option MR)(o:W->W->Mem->Option MR):Mst->Option MR:=λs=>(f s).bind λx=>(g ⟨s.O,x.2⟩).bind λy=>o x.1 y.1 y.2
def OpW (K:W.Frag)(r:R2)(o:W->W->Mem->Option MR):Prop :=
 ∀ (H:Hp) (U:List CA) (G:Mem) (x y:W) (z:MR) (vx vy:V) (Q:VK),zAG K H U G->o x y G=some z->DenW K H U x vx->DenW K H U y vy->(∀ v H' Z,Kp H H'->zAG K H' (U++Z) z.2->DenW K H' (U++Z) z.1 v->Q v H')->r vx vy H Q
theorem zM4 {K:W.Frag}(h:OpD K r o):OpW K r (opM o):=λH U G x y z vx vy Q c e dx dy n=>by
 obtain⟨a,ea,e⟩:=bind_some e;obtain⟨b,eb,e⟩:=bind_some e;obtain⟨q,e1,e2⟩:=bind_some e;refine h [] H a b q vx vy Q (λa z=>absurd z (by simp)) e1 (.inl (zKd c dx ea)) (.inl (zKd c dy eb)) λv H' s1 r1=>?_
 obtain⟨Z,c1,d1⟩:=zH7 c s1 r1 e2;exact n v H' Z (zBB s1) c1 d1
theorem zFO {r:R2}{o:W->W->Mem->Option MR}{f g:Mst->Option MR}(h:OpW X.K r o){B:St}{H:Hp}{Q:VK}(q:gM X.K (twoM f g o) B H Q):tOp r (gM X.K f) (gM X.K g) B H Q:=by
 obtain⟨U,O,G,z,ms,q,c⟩:=q;obtain⟨x,e1,q⟩:=bind_some q;obtain⟨y,e2,q⟩:=bind_some q;refine⟨U,O,G,x,ms,e1,λvx H1 Z1 k1 c1 d1=>⟨U++Z1,O,x.2,y,ms.next k1 c1,e2,λvy H2 Z2 k2 c2 d2=>?_⟩⟩;refine h H2 _ y.2 x.1 y.1 z vx vy Q c2 q (d1.mono k2 Z2) d2 λv H3 Z3 k3 c3 d3=>c v H3 (Z1++Z2++Z3) (k1.trans (k2.trans k3)) ?_ ?_
 .grind
 .simp_all
noncomputable def ixW (x y:W)(G:Mem):Option MR:=match x,y with
 | .loc n,.dat (.int i)=>(G[n]?).bind λws=>(atI ws i).map λw=>(w,G)
 | .tup ws,.dat (.int i)=>(atI ws i).map λw=>(w,G)
 | .dat (.tup ds),.dat (.int i)=>(atI ds i).map λd=>(.dat d,G)
 | .dat (.lst ds),.dat (.int i)=>(atI ds i).map λd=>(.dat d,G)
 | _,_=>none
theorem DenWL.atI {K:W.Frag}(h:DenWL K H U ws vs)(e:atI ws i=some w):∃ v,L2.atI vs i=some v/\DenW K H U w v:=by
 unfold L2.atI at e ⊢;obtain⟨j,e1,e2⟩:=bind_some e;obtain⟨v,q1,q2⟩:=h.get e2;refine⟨v,?_,q2⟩;rw[<- h.length,e1];exact q1
theorem zQR:OpW X.K (λx y H Q=>rIxL X.K x y H Q\/rIxT X.K x y H Q) ixW:=λH U G x y z vx vy Q c e dx dy n=>by
 have fin:∀ {w:W} {v:V},DenW X.K H U w v->z=(w,G)->Q v H:=λ{w v} d ez=>by
  subst ez;exact n v H [] (Kp.refl H) (by rw[append_nil];exact c) (by rw[append_nil];exact d)
 unfold ixW at e;split at e
 .rename_i m i;obtain⟨ws,e1,e⟩:=bind_some e;obtain⟨w,e2,e⟩:=x9.mp e;rw[DenW] at dx;rw[DenW] at dy;rw[Den] at dy;obtain⟨b,h1,rfl⟩:=dx;obtain⟨vs,q2,q3⟩:=c.loc' h1 e1;obtain⟨v,g1,g2⟩:=q3.atI e2;exact .inl ⟨_,vs,i,v,rfl,dy,SqL.of q2,g1,fin g2 e.symm⟩
 .rename_i ws i;obtain⟨w,e2,e⟩:=x9.mp e;rw[DenW] at dx;rw[DenW] at dy;rw[Den] at dy;obtain⟨a,vs,rfl,h2,h3⟩:=dx;obtain⟨v,g1,g2⟩:=h3.atI e2;exact .inr ⟨a,vs,i,v,rfl,dy,SqT.of (zBh _ _ h2),g1,fin g2 e.symm⟩
 .rename_i ds i;obtain⟨d,e2,e⟩:=x9.mp e;rw[DenW] at dx;rw[DenW] at dy;rw[Den] at dx;rw[Den] at dy;obtain⟨a,vs,rfl,h2,h3⟩:=dx;obtain⟨v,g1,g2⟩:=h3.atI e2;exact .inr ⟨a,vs,i,v,rfl,dy,Same.tupS zBh h2,g1,fin (w:=.dat d) (by rw[DenW];exact g2) e.symm⟩
 .rename_i ds i;obtain⟨d,e2,e⟩:=x9.mp e;rw[DenW] at dx;rw[DenW] at dy;rw[Den] at dx;rw[Den] at dy;obtain⟨a,vs,rfl,h2,h3⟩:=dx;obtain⟨v,g1,g2⟩:=h3.atI e2;exact .inl ⟨a,vs,i,v,rfl,dy,zBh.seq h2,g1,fin (w:=.dat d) (by rw[DenW];exact g2) e.symm⟩
 .cases e
theorem zSt (ha:GM X a f)(hb:GM X b g)(hs:zFj b):GM X (.Subscript a b pos) (twoM f g ixW) :=
 (zQM (zJo.or zNI) ha hb hs).imp λ_ _ _ q=>zFO zQR q
theorem zRR (ho:OpR X (compareOp op) r)(h:OpD X.K r o)(hm:behindInMarks op b=false)(ha:GM X a f)(hb:GM X b g):GM X (.Compare a [op] [b] pos) (twoM f g (opM o)) :=
 (zJD ho ha hb hm).imp λ_ _ _ q=>zFO (zM4 h) q
end
section
variable {X:Cx}
abbrev MB:=Bool×Mem
def gBM (K:W.Frag)(g:Mst->Option MB):TT:=λB H Q=>∃ U O G r,MS K H U G B O/\g ⟨O,G⟩=some r/\∀ H' Z,Kp H H'->zAG K H' (U++Z) r.2->Q r.1 H'
def GTM (X:Cx)(e:Expr)(g:Mst->Option MB):Prop:=PT X e (gBM X.K g)
def GWM (X:Cx)(e:Expr)(g:Mst->Option MB):Prop:=PW X e (gBM X.K g)
noncomputable def asBM (f:Mst->Option MR):Mst->Option MB:=λs=>match f s with
 | some (.dat (.bl b),G)=>some (b,G)
 | _=>none
theorem zKy (h:asBM f s=some r):f s=some (.dat (.bl r.1),r.2):=by
 unfold asBM at h;split at h
 .rename_i e;cases h;omega
 .cases h
theorem zG2 {f:Mst->Option MR}{B:St}{H:Hp}{Q:Bool->Hp->Prop}(q:gBM X.K (asBM f) B H Q):gM X.K f B H λx H'=>∃ k,x=.bl k/\Q k H':=by
 obtain⟨U,O,G,r,ms,e,c⟩:=q;refine⟨U,O,G,_,ms,zKy e,λv H' Z k1 c1 d1=>⟨r.1,?_,c H' Z k1 c1⟩⟩;exact d1
noncomputable def zLh (k:Dst->Option Bool):Mst->Option MB:=λs=>(k (drS s.G s.O)).map λb=>(b,s.G)
theorem zLt (h:GT X e k):GTM X e (zLh k):=h.imp λB H Q zz98=>by
 obtain⟨U,O,G,r,ms,q,c⟩:=zz98;obtain⟨b,e1,e2⟩:=x9.mp q;cases e2;exact⟨[],drS G O,b,zNU ms,e1,λH' s1=>c H' [] (zBB s1) (by rw[append_nil];exact ms.cells.same s1)⟩
theorem zOf (ho:OpR X (compareOp op) r)(h:OpD X.K r o)(hm:behindInMarks op b=false)(ha:GM X a f)(hb:GM X b g):GTM X (.Compare a [op] [b] pos) (asBM (twoM f g (opM o))) :=
 (zGi ho ha hb hm).imp λ_ _ _ q=>zFO (zM4 h) (zG2 q)
theorem zOc (h:GM X e f)(he:∀ whole,isTrue e X.env whole=(do let v<-whole;standAt e.pos;holding [v] (truthy v))):GTM X e (asBM f) :=
 (zMw h he).imp λ_ _ _ q=>zG2 q
noncomputable def andB (f g:Mst->Option MB):Mst->Option MB:=λs=>(f s).bind λr=>if r.1=true then g ⟨s.O,r.2⟩ else some (false,r.2)
noncomputable def orB (f g:Mst->Option MB):Mst->Option MB:=λs=>(f s).bind λr=>if r.1=true then some (true,r.2) else g ⟨s.O,r.2⟩
noncomputable def notB (f:Mst->Option MB):Mst->Option MB:=λs=>(f s).map λr=>(!r.1,r.2)
theorem zOd (h:GTM X a f):GTM X (.UnaryOp .Not a pos) (notB f) :=
 (zMx h).imp λB H Q zz99=>by
  obtain⟨U,O,G,r,ms,q,c⟩:=zz99;obtain⟨z,e1,e2⟩:=x9.mp q;cases e2;exact⟨U,O,G,z,ms,e1,λH' Z k1 c1=>c H' Z k1 c1⟩
theorem zLr (h:GTM X a f):GWM X (.BoolOp .And [a] pos) f:=zI7 h
theorem zOa (h:GTM X a f):GWM X (.BoolOp .Or [a] pos) f:=zMu h
theorem zOb (ha:GTM X a f)(hb:GWM X (.BoolOp .And (b::rest) pos) g):GWM X (.BoolOp .And (a::b::rest) pos) (andB f g):=by
 refine PW.imp (zMv ha hb) λB H Q zz100=>?_
 obtain⟨U,O,G,r,ms,q,c⟩:=zz100;obtain⟨⟨b1,O5⟩,e1,q⟩:=bind_some q;cases b1 with
 | true =>
  refine⟨U,O,G,_,ms,e1,λH1 Z k1 c1=>iteT ?_⟩;exact⟨U++Z,O,O5,r,ms.next k1 c1,q,λH2 Z2 k2 c2=>c H2 (Z++Z2) (k1.trans k2) (by simp_all)⟩
 | false =>
  cases q;exact⟨U,O,G,_,ms,e1,λH1 Z k1 c1=>iteF (c H1 Z k1 c1)⟩
theorem zQ4 (ha:GTM X a f)(hb:GWM X (.BoolOp .Or (b::rest) pos) g):GWM X (.BoolOp .Or (a::b::rest) pos) (orB f g):=by
 refine PW.imp (zQF ha hb) λB H Q zz101=>?_
 obtain⟨U,O,G,r,ms,q,c⟩:=zz101;obtain⟨⟨b1,O5⟩,e1,q⟩:=bind_some q;cases b1 with
 | true =>
  cases q;exact⟨U,O,G,_,ms,e1,λH1 Z k1 c1=>iteT (c H1 Z k1 c1)⟩
 | false =>
  refine⟨U,O,G,_,ms,e1,λH1 Z k1 c1=>iteF ?_⟩;exact⟨U++Z,O,O5,r,ms.next k1 c1,q,λH2 Z2 k2 c2=>c H2 (Z++Z2) (k1.trans k2) (by grind)⟩
theorem zQ6 (h:GWM X e f):GTM X e f:=λpins s B H Q I q=>h _ pins s B H Q I q
inductive OutM where
 | nx (s:Mst) | rt (r:MR) | bk (s:Mst) | ct (s:Mst)
def zS8 (K:W.Frag)(H0:Hp)(α0:List CA)(o:OutM)(E:Ends):Prop:=match o with
 | .nx s=>∀ Z O1 H',MS K H' (α0++Z) s.G O1 s.O->Kp H0 H'->E.nx O1 H'
 | .bk s=>∀ Z O1 H',MS K H' (α0++Z) s.G O1 s.O->Kp H0 H'->E.bk O1 H'
 | .ct s=>∀ Z O1 H',MS K H' (α0++Z) s.G O1 s.O->Kp H0 H'->E.ct O1 H'
 | .rt r=>∀ Z v H',zAG K H' (α0++Z) r.2->DenW K H' (α0++Z) r.1 v->Kp H0 H'->E.rt v H'
def gSM (K:W.Frag)(H0:Hp)(α0:List CA)(g:Mst->Option OutM):TS:=λE B H=>∃ Z s o,MS K H (α0++Z) s.G B s.O/\Kp H0 H/\g s=some o/\zS8 K H0 α0 o E
def GSM (X:Cx)(st:Stmt)(g:Mst->Option OutM):Prop:=∀ H0 α0,PS X st (gSM X.K H0 α0 g)
def GSsM (X:Cx)(st:List Stmt)(g:Mst->Option OutM):Prop:=∀ H0 α0,PSs X st (gSM X.K H0 α0 g)
noncomputable def seqM (f g:Mst->Option OutM):Mst->Option OutM:=λs=>(f s).bind λo=>match o with
 | .nx s'=>g s'
 | o=>some o
theorem zLu:GSsM X [] (λs=>some (.nx s)):=λH0 α0=>zGj.imp λE B H zz102=>by
 obtain⟨Z,s,o,ms,k,e,p⟩:=zz102;cases e;exact p Z B H ms k
theorem zJx {st:Stmt}(h1:GSM X st f)(h2:GSsM X rest g):GSsM X (st::rest) (seqM f g):=λH0 α0=>(zFJ (h1 H0 α0) (h2 H0 α0)).imp λE B H zz103=>by
 obtain⟨Z,s,o,ms,k,e,p⟩:=zz103;obtain⟨o1,e1,e⟩:=bind_some e;refine⟨Z,s,o1,ms,k,e1,?_⟩;cases o1 with
 | nx s'=>exact λZ' O1 H' ms' k'=>⟨Z',s',o,ms',k',e,p⟩
 | rt r=>cases e;exact p
 | bk s'=>cases e;exact p
 | ct s'=>cases e;exact p
noncomputable def setM (i:Nat)(f:Mst->Option MR):Mst->Option OutM:=λs=>(f s).bind λr=>some (.nx ⟨s.O.set i (some r.1),r.2⟩)
theorem zJy (hN:X.N.Nodup)(hi:X.N[i]?=some x)(hx:Loc X.env.scope x)(h:GM X e f)(hs:swapsWith e (some (.Name x pos')) pos.line X.env=pure false)(hf:X.fn x=true\/X.env.scope.names.lookup x=some .local) :
  GSM X (.Assign [.Name x pos'] e pos) (setM i f):=λH0 α0=>(zMy hN hi hx h hs hf).imp λE B H zz104=>by
 obtain⟨Z,s,o,ms,k,e,p⟩:=zz104;obtain⟨r,er,e⟩:=bind_some e;cases e;refine⟨α0++Z,s.O,s.G,r,ms,er,λv H1 Z1 k1 c1 d1=>?_⟩;have ms1:=(ms.next k1 c1).set (i:=i) d1
 simp_all
 exact p (Z++Z1) _ H1 ms1 (k.trans k1)
noncomputable def zMU (f:Mst->Option MR):Mst->Option OutM:=λs=>(f s).bind λr=>some (.nx ⟨s.O,r.2⟩)
theorem zL0 (h:GM X e f)(hs:swapsWith e none pos.line X.env=pure false):GSM X (.Expr e pos) (zMU f):=λH0 α0=>(zDA h hs).imp λE B H zz105=>by
 obtain⟨Z,s,o,ms,k,e,p⟩:=zz105;obtain⟨r,er,e⟩:=bind_some e;cases e;refine⟨α0++Z,s.O,s.G,r,ms,er,λv H1 Z1 k1 c1 d1=>?_⟩;have ms1:=ms.next k1 c1
 simp_all
 exact p _ _ H1 ms1 (k.trans k1)
noncomputable def retM (f:Mst->Option MR):Mst->Option OutM:=λs=>(f s).bind λr=>some (.rt r)
theorem zOj (h:GM X e f):GSM X (.Return (some e) pos) (retM f):=λH0 α0=>(zI8 h).imp λE B H zz106=>by
 obtain⟨Z,s,o,ms,k,e,p⟩:=zz106;obtain⟨r,er,e⟩:=bind_some e;cases e;refine⟨α0++Z,s.O,s.G,r,ms,er,λv H1 Z1 k1 c1 d1=>?_⟩
 simp_all
 exact p _ v H1 c1 d1 (k.trans k1)
theorem zLx :GSM X (.Return none pos) (λs=>some (.rt (.dat .non,s.G))):=λH0 α0=>zNs.imp λE B H zz107=>by
 obtain⟨Z,s,o,ms,k,e,p⟩:=zz107;cases e;exact p Z .non H ms.cells rfl k
theorem zJz {st:Stmt}:GSM X st (λ_=>none):=λH0 α0=>zFK.imp λE B H zy160=>by obtain⟨Z,s,o,ms,k,e,p⟩:=zy160;cases e
noncomputable def ifM (c:Mst->Option MB)(f g:Mst->Option OutM):Mst->Option OutM:=λs=>(c s).bind λb=>if b.1=true then f ⟨s.O,b.2⟩ else g ⟨s.O,b.2⟩
theorem zRC (hc:GTM X c k)(ha:GSsM X a f)(hb:GSsM X b g):GSM X (.If c a b pos) (ifM k f g):=λH0 α0=>(zQG hc (ha H0 α0) (hb H0 α0)).imp λE B H zz108=>by
 obtain⟨Z,s,o,ms,kp,e,p⟩:=zz108;obtain⟨⟨b1,O5⟩,e1,e⟩:=bind_some e;refine⟨α0++Z,s.O,s.G,_,ms,e1,λH1 Z1 k1 c1=>?_⟩;have ms1:=ms.next k1 c1
 simp_all
 cases b1 with
 | true =>
  exact iteT ⟨Z++Z1,_,o,ms1,kp.trans k1,e,p⟩
 | false =>
  exact iteF ⟨Z++Z1,_,o,ms1,kp.trans k1,e,p⟩
noncomputable def appM (t f:Mst->Option MR):Mst->Option OutM:=λs=>(t s).bind λx=>match x.1 with
 | .loc n=>(f ⟨s.O,x.2⟩).bind λr=>(r.2[n]?).bind λws=>if ws.length<=10000 then some (.nx ⟨s.O,r.2.set n (ws++[r.1])⟩) else none
 | _=>none
theorem zOm (hb:GM X b t)(h:GM X e f)
  (he:starEach [e] X.env=[(false,eval e X.env)]) (hbase:attributeBase b "append" X.env (eval b X.env)=eval b X.env) (hline:(apos.endLine==cpos.line)=true) :
  GSM X (.Expr (.Call (.Attribute b "append" apos) [e] [] cpos) pos) (appM t f):=λH0 α0=>(zDA (zGk PySem.F.plainAttrs_list PySem.F.slot_list_append PySem.F.type_list_append zF4 hb (zAa h zA2 he) hbase (by rw[he];rfl) hline he rfl) rfl).imp λE B H zz109=>by
 obtain⟨Z,s,o,ms,k,e,p⟩:=zz109;obtain⟨x,ex,e⟩:=bind_some e;split at e
 .rename_i n en;obtain⟨r,er,e⟩:=bind_some e;obtain⟨ws,ew,e⟩:=bind_some e;by_cases hl:ws.length<=10000
  .rw [if_pos hl] at e;cases e;refine⟨α0++Z,s.O,s.G,x,ms,ex,λv H1 Z1 k1 c1 d1=>?_⟩;rw[en,DenW] at d1;obtain⟨a,ha,rfl⟩:=d1;have ms1:=ms.next k1 c1;obtain⟨_,vs0,_,q2,_⟩:=c1.loc ha;refine⟨.inl ⟨rfl,_,SqL.of q2⟩,α0++Z++Z1,s.O,x.2,r,ms1,er,λy H2 Z2 k2 c2 d2=>?_⟩;have ms2:=ms1.next k2 c2;have ha2:=zA7 (Z:=Z2) ha;obtain⟨vs,g2,g3⟩:=c2.loc' ha2 ew;refine⟨a,vs,y,rfl,rfl,g2,by rw[<- g3.length];exact Nat.lt_of_le_of_lt hl (by decide),?_⟩;have hn2:n < r.2.length:=(zzg ew).1;have kp:Kp H2 (upd H2 a (.lst (vs++[y]))):=by show Same _ _;rw[zNO g2];exact Same.refl _
   have c3:=c2.change hn2 ha2 (g3.append (.cons d2 .nil));have ms3:MS X.K (upd H2 a (.lst (vs++[y]))) (α0++(Z++Z1++Z2)) (r.2.set n (ws++[r.1])) B s.O:=by
    have m:=ms2.next (Z:=[]) kp (by rw[append_nil];exact c3)
    simp_all
   exact p (Z++Z1++Z2) B _ ms3 (k.trans (k1.trans (k2.trans kp)))
  .rw [if_neg hl] at e;cases e
 .cases e
end
section
variable {X:Cx}{K:W.Frag}{H:Hp}{U:List CA}{G:Mem}{B:St}{O:List (Option W)}
theorem MS.chg (ms:MS K H U G B O){n:Nat}{a:Addr}{us vs:List V}{ws:List W}(ha:U[n]?=some (a,.lst))(hv:H a=some (.lst us))(t:DenWL K H U ws vs):MS K (upd H a (.lst vs)) U (G.set n ws) B O/\Kp H (upd H a (.lst vs)):=by
 have kp:Kp H (upd H a (.lst vs)):=by show Same _ _;rw[zNO hv];exact Same.refl _
 have m:=ms.next kp (by rw[append_nil];exact ms.cells.change (by rw[<- ms.cells.len];exact(zzg ha).1) ha t)
 simp_all
theorem DenWL.dropLast:∀ {ws:List W} {vs:List V},DenWL K H U ws vs->DenWL K H U ws.dropLast vs.dropLast
 | [],_,h=>by rw[DenWL] at h;subst h;exact .nil
 | [w],_,h=>by
  rw[DenWL] at h;obtain⟨v,us,rfl,h2,h3⟩:=h;rw[DenWL] at h3;subst h3;exact .nil
 | w::w2::ws,_,h=>by
  rw[DenWL] at h;obtain⟨v,us,rfl,h2,h3⟩:=h;have h3':=h3;rw[DenWL] at h3;obtain⟨v2,us2,rfl,_,_⟩:=h3;exact .cons h2 (DenWL.dropLast h3')
inductive Src where
 | items (ws:List W) | live (n:Nat)
noncomputable def itm (G:Mem):Src->Option (List W)
 | .items ws=>some ws
 | .live n=>G[n]?
def JOk (K:W.Frag)(J:It)(src:Src)(H1:Hp)(U1:List CA):Prop :=
 ∀ (i:Nat) (H2:Hp) (γ:List CA) (μ2:Mem) (ws:List W),Kp H1 H2->zAG K H2 (U1++γ) μ2->itm μ2 src=some ws->(ws[i]?=none->J.stop i H2)/\∀ w,ws[i]?=some w->J.go i H2/\∀ v H3,J.yld i H2 v H3->H3=H2/\DenW K H2 (U1++γ) w v
def GIM (X:Cx)(tg iter:Expr)(g:Mst->Option (Src×Mem)):Prop:=∃ wi,PI X tg iter wi/\∀ (B:St) (H:Hp) (U:List CA) (O:List (Option W)) (G:Mem) (r:Src×Mem) (Rr:It->Hp->Prop),MS X.K H U G B O->g ⟨O,G⟩=some r ->
 (∀ J H1 Z,Kp H H1->zAG X.K H1 (U++Z) r.2->JOk X.K J r.1 H1 (U++Z)->Rr J H1)->wi B H Rr
def GGM (X:Cx)(tg:Expr)(t:W->Mst->Option Mst):Prop:=∃ g,PG X tg g/\∀ (w:W) (v:V) (B:St) (H:Hp) (U:List CA) (s s':Mst) (Q:St->Hp->Prop),MS X.K H U s.G B s.O->DenW X.K H U w v->t w s=some s'->(∀ O1,MS X.K H U s'.G O1 s'.O->Q O1 H)->g v B H Q
noncomputable def tgM (i:Nat):W->Mst->Option Mst:=λw s=>some ⟨s.O.set i (some w),s.G⟩
theorem zFY (hN:X.N.Nodup)(hi:X.N[i]?=some x)(hx:Loc X.env.scope x)(hf:X.fn x=true\/X.env.scope.names.lookup x=some .local):GGM X (.Name x pos) (tgM i) :=
 ⟨_,zFN hN hi hx hf,λw v B H U s s' Q ms hw e q=>by
  cases e;exact q _ (ms.set hw)⟩
noncomputable def forN (t:W->Mst->Option Mst)(b:Mst->Option OutM)(src:Src):Nat->Nat->Mst->Option OutM
 | 0,_,_=>none
 | f+1,i,s=>(itm s.G src).bind λws=>match ws[i]? with
  | none=>some (.nx s)
  | some w=>(t w s).bind λs1=>(b s1).bind λo=>match o with
   | .nx s'=>forN t b src f (i+1) s'
   | .ct s'=>forN t b src f (i+1) s'
   | .bk s'=>some (.nx s')
   | .rt r=>some (.rt r)
theorem zEH :∀ {f i:Nat} {s:Mst} {o:OutM},forN t b src f i s=some o->forN t b src (f+1) i s=some o
 | 0,_,_,_,h=>by cases h
 | f+1,i,s,o,h=>by
  rw[forN] at h ⊢;obtain⟨ws,e1,h⟩:=bind_some h;rw[e1,qx];cases q:ws[i]? with
  | none=>rw[q] at h;exact h
  | some w =>
   rw[q] at h;dsimp only at h ⊢;obtain⟨s1,e2,h⟩:=bind_some h;obtain⟨o1,e3,h⟩:=bind_some h;rw[e2,qx,e3,qx];cases o1 with
   | nx s'=>exact zEH (f:=f) h
   | ct s'=>exact zEH (f:=f) h
   | bk s'=>exact h
   | rt r=>exact h
theorem zGE (h:forN t b src f i s=some o)(l:f<=g):forN t b src g i s=some o:=by
 induction g with
 | zero =>
      have:f=0:=by omega
      grind
 | succ g ih =>
  by_cases q:f<=g
  .exact zEH (ih q)
  .grind
open Classical in
def zFa (t:W->Mst->Option Mst)(b:Mst->Option OutM)(src:Src)(i:Nat)(s:Mst):Option OutM :=
 if h:∃ n o,forN t b src n i s=some o then some (Classical.choose (choose_spec h)) else none
theorem zMD (h:forN t b src n i s=some o):zFa t b src i s=some o:=by
 have ex:∃ n o,forN t b src n i s=some o:=⟨n,o,h⟩;unfold zFa;rw[dif_pos ex];have q2:=zGE h (Nat.le_max_right (Classical.choose ex) n);rw[zGE (choose_spec (choose_spec ex)) (Nat.le_max_left _ n)] at q2;omega
theorem zJ9 (h:zFa t b src i s=some o):∃ n,forN t b src n i s=some o:=by
 unfold zFa at h;by_cases ex:∃ n o,forN t b src n i s=some o
 .grind
 .simp_all
theorem zOl (hp:PassesOwn (model X.prog X.w) X.A X.env X.xe)(hc:X.calm=true)(hi:GIM X tg iter f)(hg:GGM X tg t)(hb:GSsM X body b)
  (hs:∀ x,foldedSetIterable iter X.env x=pure x):GSM X (.For tg iter body [] pos) (λs=>(f s).bind λr=>zFa t b r.1 0 ⟨s.O,r.2⟩):=by
 intro H0 α0;obtain⟨wi,hwi,hI⟩:=hi;obtain⟨g,hg,hG⟩:=hg;intro pins s B H E I ⟨Z,st,o,ms,kp,e,p⟩;obtain⟨r,er,e⟩:=bind_some e;obtain⟨N,eN⟩:=zJ9 e;refine(zMz (tb:=λE B H2=>∃ H1 U1,gSM X.K H1 U1 b E B H2) hp hc hwi hg ?_ hs) pins s B H E I ?_
 .intro pins s B H E I ⟨H1,U1,q⟩;exact hb H1 U1 pins s B H E I q
 refine hI B H (α0++Z) st.O st.G r _ ms er λJ H1 Z1 k1 c1 hJ=>?_
 refine⟨λi m O1 H2=>∃ γ s',MS X.K H2 (α0++Z++Z1++γ) s'.G O1 s'.O/\Kp H1 H2/\forN t b r.1 m i s'=some o,⟨N,[],⟨st.O,r.2⟩,by rw[append_nil];exact ms.next k1 c1,Kp.refl _,eN⟩,?_⟩;rintro i m O1 H2 ⟨γ,s',ms',k',e'⟩;cases m with
 | zero=>cases e'
 | succ m =>
  rw[forN] at e';obtain⟨ws,ew,e'⟩:=bind_some e';obtain⟨j1,j2⟩:=hJ i H2 γ s'.G ws k' ms'.cells ew;have assoc:∀ γ:List CA,α0++Z++Z1++γ=α0++(Z++Z1++γ):=fun γ=>by simp
  cases q:ws[i]? with
  | none =>
   rw[q] at e';cases e';rw[assoc] at ms';exact .inl ⟨j1 q,p _ O1 H2 ms' (kp.trans (k1.trans k'))⟩
  | some w =>
   rw[q] at e';dsimp only at e';obtain⟨s1,e1,e'⟩:=bind_some e';obtain⟨o1,e2,e'⟩:=bind_some e';obtain⟨go,yl⟩:=j2 w q;refine .inr ⟨go,λB3 H3=>∃ γ s',MS X.K H3 (α0++Z++Z1++γ) s'.G B3 s'.O/\Kp H1 H3/\forN t b r.1 m (i+1) s'=some o,λB3 H3 z=>⟨m,Nat.lt_succ_self m,z⟩,λv H3 y=>?_⟩;obtain⟨rfl,hv⟩:=yl v H3 y;refine hG w v O1 H3 _ s' s1 _ ms' hv e1 λB4 ms4=>⟨H1,α0++Z++Z1,γ,s1,o1,ms4,k',e2,?_⟩
   cases o1 with
   | nx s2=>exact λO4 B2 H4 m2 q2=>⟨O4,s2,m2,q2,e'⟩
   | ct s2=>exact λO4 B2 H4 m2 q2=>⟨O4,s2,m2,q2,e'⟩
   | bk s2 =>
    cases e';intro O4 B2 H4 m2 q2;rw[assoc] at m2;exact p _ B2 H4 m2 (kp.trans (k1.trans q2))
   | rt z =>
    cases e';intro O4 v2 H4 c2 d2 q2;rw[assoc] at c2 d2;exact p _ v2 H4 c2 d2 (kp.trans (k1.trans q2))
end
section
variable {X:Cx}
noncomputable def srcM (f:Mst->Option MR):Mst->Option (Src×Mem):=λs=>(f s).bind λr=>match r.1 with
 | .loc n=>some (.live n,r.2)
 | .tup ws=>some (.items ws,r.2)
 | .dat (.tup ds)=>some (.items (ds.map .dat),r.2)
 | .dat (.lst ds)=>some (.items (ds.map .dat),r.2)
 | _=>none
theorem zOx (h:GM X iter f):GIM X tg iter (srcM f):=by
 refine⟨_,zM0 h,λB H U O G z Rr ms e q=>?_⟩;obtain⟨r,er,e⟩:=bind_some e;refine⟨U,O,G,r,ms,er,λv H1 Z k1 c1 d1=>?_⟩;have tupJ:∀ {a:Addr} {ws:List W} {vs:List V},SqT X.K (fzH H1) a vs->DenWL X.K H1 (U++Z) ws vs->JOk X.K (Itt X.K a) (.items ws) H1 (U++Z):=λ{a ws vs} sq dl i H2 γ μ2 ws' k2 c2 e2=>by
  cases e2;have sq2:SqT X.K H2 a vs:=Same.tupS zBh (Same.tupS k2 sq);refine⟨λn=>⟨vs,sq2,?_⟩,λw ew=>?_⟩
  .rw [<- dl.length];exact List.getElem?_eq_none_iff.mp n
  .obtain ⟨u,g1,g2⟩:=dl.get ew;refine⟨⟨vs,u,sq2,g1⟩,λv H3 y=>⟨y.1,?_⟩⟩;have:=y.2 vs sq2;rw[g1] at this;cases this;exact g2.mono k2 γ
 have lstJ:∀ {a:Addr} {ws:List W} {vs:List V},SqL X.K (fzH H1) a vs->DenWL X.K H1 (U++Z) ws vs->JOk X.K (Itl X.K a) (.items ws) H1 (U++Z):=λ{a ws vs} sq dl i H2 γ μ2 ws' k2 c2 e2=>by
  cases e2;have sq2:SqL X.K H2 a vs:=zBh.seq (k2.seq sq);refine⟨λn=>⟨vs,sq2,?_⟩,λw ew=>?_⟩
  .rw [<- dl.length];exact List.getElem?_eq_none_iff.mp n
  .obtain ⟨u,g1,g2⟩:=dl.get ew;refine⟨⟨vs,u,sq2,g1⟩,λv H3 y=>⟨y.1,?_⟩⟩;have:=y.2 vs sq2;rw[g1] at this;cases this;exact g2.mono k2 γ
 split at e
 .rename_i n en;cases e;rw[en,DenW] at d1;obtain⟨a,ga,rfl⟩:=d1;obtain⟨ws0,vs0,_,q2,_⟩:=c1.loc ga;refine⟨a,rfl,.inl ⟨⟨vs0,SqL.of q2⟩,q _ H1 Z k1 c1 λi H2 γ μ2 ws k2 c2 e2=>?_⟩⟩;obtain⟨vs,g2,g3⟩:=c2.loc' (zA7 (Z:=γ) ga) e2;have sq2:SqL X.K H2 a vs:=SqL.of g2;refine⟨λn=>⟨vs,sq2,?_⟩,λw ew=>?_⟩
  .rw [<- g3.length];exact List.getElem?_eq_none_iff.mp n
  .obtain ⟨u,g4,g5⟩:=g3.get ew;refine⟨⟨vs,u,sq2,g4⟩,λv H3 y=>⟨y.1,?_⟩⟩;have:=y.2 vs sq2;rw[g4] at this;cases this;exact g5
 .rename_i ws en;cases e;rw[en,DenW] at d1;obtain⟨a,vs,rfl,h2,h3⟩:=d1;exact⟨a,rfl,.inr ⟨⟨vs,SqT.of (zBh _ _ h2)⟩,q _ H1 Z k1 c1 (tupJ (SqT.of h2) h3)⟩⟩
 .rename_i ds en;cases e;rw[en,DenW,Den] at d1;obtain⟨a,vs,rfl,h2,h3⟩:=d1;exact⟨a,rfl,.inr ⟨⟨vs,Same.tupS zBh h2⟩,q _ H1 Z k1 c1 (tupJ h2 (DenWL.dats h3))⟩⟩
 .rename_i ds en;cases e;rw[en,DenW,Den] at d1;obtain⟨a,vs,rfl,h2,h3⟩:=d1;exact⟨a,rfl,.inl ⟨⟨vs,zBh.seq h2⟩,q _ H1 Z k1 c1 (lstJ h2 (DenWL.dats h3))⟩⟩
 .cases e
noncomputable def zLC (f:Mst->Option MR):Mst->Option (Src×Mem):=λs=>(f s).bind λr=>match r.1 with
 | .dat (.int j)=>if -(2^62)<=j/\j < 2^62 then some (.items ((rngL 0 j.toNat).map .dat),r.2) else none
 | _=>none
theorem rngJ {K:W.Frag}(lo:Int)(n:Nat):JOk K (Itr lo n) (.items ((rngL lo n).map .dat)) H1 U1:=λi H2 γ μ2 ws k2 c2 e2=>by
 cases e2;have hl:((rngL lo n).map W.dat).length=n:=by unfold rngL;simp
 refine⟨λz=>?_,λw ew=>?_⟩
 .have:=List.getElem?_eq_none_iff.mp z;rw[hl] at this;exact this
 .have hi:i < n:=by rw[<- hl];exact(zzg ew).1
  refine⟨hi,λv H3 y=>⟨y.1,?_⟩⟩;have:((rngL lo n).map W.dat)[i]?=some (.dat (.int (lo+i))):=by unfold rngL;simp[hi]
  rw[this] at ew;cases ew;exact y.2
theorem zIc (hg:Gl X "range")(hm:X.mg "range"=none)(h:GM X a f)(hs:starEach [a] X.env=[(false,eval a X.env)]):GIM X tg (.Call (.Name "range" p) [a] [] pos) (zLC f):=by
 refine⟨_,zFx hg hm (zAa h zA2 hs) hs,λB H U O G z Rr ms e q=>?_⟩;obtain⟨r,er,e⟩:=bind_some e;split at e
 .rename_i j ej;by_cases hj:-(2^62)<=j/\j < 2^62
  .rw [if_pos hj] at e;cases e;refine⟨U,O,G,r,ms,er,λv H1 Z k1 c1 d1=>⟨j,?_,hj.1,hj.2,q _ H1 Z k1 c1 (rngJ 0 _)⟩⟩;rw[ej,DenW,Den] at d1;rw[d1]
  .simp_all
 .cases e
noncomputable def zST (f g:Dst->Option R):Mst->Option (Src×Mem):=λs=>(zFw f g (drS s.G s.O)).map λds=>(.items (ds.map .dat),s.G)
end
noncomputable def zBE (np nN:Nat)(g:Mst->Option OutM):MF:=λws G =>
 if ws.length=np/\np<=nN then (g ⟨ws.map some++List.replicate (nN - np) none,G⟩).bind λo=>match o with
  | .rt r=>some r
  | .nx s=>some (.dat .non,s.G)
  | _=>none
 else none
theorem zHe {K:W.Frag}(c:zAG K H U G)(h:DenWL K H U ws vs)(hl:ws.length<=N.length):MS K H U G (zCL N vs) (ws.map some++List.replicate (N.length - ws.length) none):=by
 have el:=h.length;refine⟨c,?_,λi w q=>?_⟩
 .unfold L2.zCL;grind
 .have hi:i < ws.length:=by
   by_cases z:i < ws.length
   .exact z
   .rw [getElem?_append_right (by simpa using z),getElem?_replicate] at q;split at q<;>cases q
  rw[getElem?_append_left (by simpa using hi),getElem?_map] at q;cases e:ws[i]? with
  | none=>rw[e] at q;cases q
  | some w' =>
   rw[e] at q;cases q;obtain⟨v,q1,q2⟩:=h.get e;refine⟨v,?_,q2⟩;unfold L2.zCL;rw[getElem?_append_left (by grind),getElem?_map,q1]
   rfl
theorem zO7 {K:W.Frag}{st:Stmt}(F:Fun K x qual st f fd)(S:zAq N ps (zAA st))
  (hbody:∀ (cdv:Value) (A:Around) (outer:List Env) (s:Shared) (H:Hp) (E:XK),Room k (A.deeper (envOfC qual (zAA st) s.heap.objs.size f cdv))->GSsM (cxOf CX0 P w K mg base N qual (zAA st) f cdv A outer s H E).nox (zAK st) g) :
  FnOk P w K mg base CX0 (k+1) f fd ps (spM K (zBE ps.length N.length g)):=by
 refine F.ok S (λvs H Q E h=>?_) λcdv A outer s H vs Q E hr h=>?_
 .obtain ⟨U,G,ws,r,c,d,hF,n⟩:=h;unfold zBE at hF;by_cases q:ws.length=ps.length/\ps.length<=N.length
  .rw [<- d.length];exact q.1
  .simp_all
 obtain⟨U,G,ws,r,c,d,hF,n⟩:=h;refine⟨_,hbody cdv A outer s H E hr H U,?_⟩;unfold zBE at hF;by_cases q:ws.length=ps.length/\ps.length<=N.length
 .rw [if_pos q] at hF;obtain⟨o,eo,hF⟩:=bind_some hF;rw[<- q.1] at eo;refine⟨[],_,o,by rw[append_nil];exact zHe c d (by rw[q.1];exact q.2),Kp.refl H,eo,?_⟩;cases o with
  | nx s' =>
   cases hF;exact λZ O1 H' m k=>n _ H' Z k m.cells (by rw[DenW,Den])
  | rt r' =>
   cases hF;exact λZ v H' c' d' k=>n v H' Z k c' d'
  | bk _=>cases hF
  | ct _=>cases hF
 .rw [if_neg q] at hF;cases hF
theorem walkM {l:W.OpenLaw}{K:Params->W.Frag}(hn:l.most=some 63)(hdf:d.params.defaults=[])(hq:importsNone q=true)(ht:∀ w,(model l.prog w).prog.given.tree=none)(hr:Room k callerA)(tl:List (Str×Addr×Addr))(hrec:∀ (w:World) (h:Heap),YP w h->∀ t∈tl,W.CodeHd h t.2.1 t.2.2/\h.get? t.2.2=some (W.tabObj #[]))(htl:∀ w:World,∀ x∈zCB,tabQ (K w.params) x=tl.lookup x)(htk:∀ t∈tl,t.1∈zCB/\tl.lookup t.1=some t.2)(hnd:(tl.map λt=>t.2.2).Nodup)(hnt:∀ w:World,W.noTabs (K w.params)=true)
  (hY:∀ (w:World) (h:Heap),YP w h->(K w.params).In h)
  (FF:∀ (w:World) (mg:Str->Option Value) (fa:Addr) (h:Heap),(K w.params).In h->h.Ns mainGlobals mg->mg d.name=some (.ref fa) ->
   ∃ fd:FuncData,(∀ (s:Shared) (u:Value),BindsTo s fd ⟨[u],[]⟩ [("_law_script",u)])/\∀ base:Heap,(K w.params).In base->base.Ns mainGlobals mg->FnOk l.prog w (K w.params) mg base CX0 k fa fd ["_law_script"] (spM (K w.params) F))
  (tr:∀ ns:List Int,ns.length<=63->∃ G,F [.dat (.lst (ns.map D.int))] []=some (.dat (.bl true),G)) :
  W.WalkO q loose XP YP l.row.toRowW d [] (λf vs=>PySem.call f vs) :=
 L2.zNd (n:=63) (k:=k) (CX:=λ_=>CX0) hn (by decide) hdf hq ht hr tl hrec htl htk hnd hnt hY FF (λw H a ns hl hO hS=>by
   obtain⟨G,eF⟩:=tr ns hl.1;have sq:SqL (K w.params) (fzH H) a (ns.map V.int):=by
    rcases hS with (h | ⟨o,h⟩) | h
    .exact (hO _ h).elim
    .exact .inl (.inr ⟨o,zEt h⟩)
    .exact .inr h
   refine⟨[],[],[.dat (.lst (ns.map D.int))],_,⟨rfl,by simp,λn ws z=>by simp at z⟩,.cons ?_ .nil,eF,λv H' Z k c d=>?_⟩
   .rw [DenW,Den];exact⟨a,_,rfl,sq,DenL.ints ns⟩
   .rw [DenW,Den] at d;exact d) λ_ _ _ _ _ z=>z
end DL
end
section
namespace DL
open PySem Spec PyProof.Rows L2
noncomputable def zCH (t:W->Mst->Option Mst)(e:Mst->Option MR)(src:Src):Nat->Nat->Mst->List W->Option MA
 | 0,_,_,_=>none
 | f+1,i,s,done=>(itm s.G src).bind λws=>match ws[i]? with
  | none=>some (done,s.G)
  | some w=>(t w s).bind λs1=>(e s1).bind λr=>if done.length<=10000 then zCH t e src f (i+1) ⟨s1.O,r.2⟩ (done++[r.1]) else none
theorem zEw :∀ {f i:Nat} {s:Mst} {d:List W} {o:MA},zCH t e src f i s d=some o->zCH t e src (f+1) i s d=some o
 | 0,_,_,_,_,h=>by cases h
 | f+1,i,s,d,o,h=>by
  rw[zCH] at h ⊢;obtain⟨ws,e1,h⟩:=bind_some h;rw[e1,qx];cases q:ws[i]? with
  | none=>rw[q] at h;exact h
  | some w =>
   rw[q] at h;dsimp only at h ⊢;obtain⟨s1,e2,h⟩:=bind_some h;obtain⟨r,e3,h⟩:=bind_some h;rw[e2,qx,e3,qx];by_cases l:d.length<=10000
   .rw [if_pos l] at h ⊢;exact zEw (f:=f) h
   .rw [if_neg l] at h;cases h
theorem zEx (h:zCH t e src f i s d=some o)(l:f<=g):zCH t e src g i s d=some o:=by
 induction g with
 | zero =>
      have:f=0:=by omega
      grind
 | succ g ih =>
  by_cases q:f<=g
  .exact zEw (ih q)
  .grind
open Classical in
def zGK (t:W->Mst->Option Mst)(e:Mst->Option MR)(src:Src)(s:Mst):Option MA :=
 if h:∃ n o,zCH t e src n 0 s []=some o then some (Classical.choose (choose_spec h)) else none
theorem zKq (h:zCH t e src n 0 s []=some o):zGK t e src s=some o:=by
 have ex:∃ n o,zCH t e src n 0 s []=some o:=⟨n,o,h⟩;unfold zGK;rw[dif_pos ex];have q2:=zEx h (Nat.le_max_right (Classical.choose ex) n);rw[zEx (choose_spec (choose_spec ex)) (Nat.le_max_left _ n)] at q2;omega
theorem zIh (h:zGK t e src s=some o):∃ n,zCH t e src n 0 s []=some o:=by
 unfold zGK at h;by_cases ex:∃ n o,zCH t e src n 0 s []=some o
 .grind
 .rw [dif_neg ex] at h;cases h
def zHD (ms:List Nat)(k:Nat)(f:Mst->Option (Src×Mem))(t:W->Mst->Option Mst)(e:Mst->Option MR):Mst->Option MR:=λs =>
 (f s).bind λz=>(zGK t e z.1 ⟨mask none ms s.O++List.replicate k none,z.2⟩).bind λy=>if y.1.length<=10000 then some (.loc y.2.length,y.2++[y.1]) else none
theorem zGL (h:zHD ms k f t e s=some r):∃ z y N,f s=some z/\zCH t e z.1 N 0 ⟨mask none ms s.O++List.replicate k none,z.2⟩ []=some y/\y.1.length<=10000/\r=(.loc y.2.length,y.2++[y.1]):=by
 obtain⟨z,e1,h⟩:=bind_some h;obtain⟨y,e2,h⟩:=bind_some h;obtain⟨N,eN⟩:=zIh e2;by_cases l:y.1.length<=10000
 .rw [if_pos l] at h;cases h;exact⟨z,y,N,e1,eN,l,rfl⟩
 .simp_all
theorem MS.ext {K:W.Frag}(h:MS K H U G B O)(ms:List Nat)(k:Nat):MS K H U G (mask none ms B++List.replicate k none) (mask none ms O++List.replicate k none):=by
 refine⟨h.cells,by rw[qj,qj,zA0,zA0,h.len,length_replicate,length_replicate],λi w q=>?_⟩;obtain⟨q,hi⟩:=zB6 q;rcases zBP q with ⟨z,_⟩ | ⟨q,ni⟩
 .cases z
 .obtain ⟨v,w1,w2⟩:=h.get i w q;exact⟨v,by rw[getElem?_append_left (by rw[zA0] at hi ⊢;rw[h.len];exact hi),zFT ni];exact w1,w2⟩
section
variable {X:Cx}
theorem zEv (hcalm:X.calm=true)(hi:GIM X tg iter f)(cs:zCv X.env.scope scope)
  (hm:∀ (i:Nat) x,X.N[i]?=some x->ownB scope x=true->i∈ms)
  (hg:∀ s H fp,GGM (zAW X (mask noN ms X.N++xs) scope s H fp) tg t)
  (he:∀ s H fp,GM (zAW X (mask noN ms X.N++xs) scope s H fp) elt e)
            (I:Inv X pins B H s) (mst:MS X.K H U G B O) (ez:f ⟨O,G⟩=some z) (hyl:y.1.length<=10000) (ey:zCH t e z.1 NN 0 ⟨mask none ms O++List.replicate xs.length none,z.2⟩ []=some y)
  {RR:Value->Addr->Result->Shared->Prop}
  (fin:∀ (D C:Addr) (s1:Shared) (H'':Hp) (m:Str->Option Value),s1.heap.Ns C m->(∀ h',Heap.SameBut C s1.heap h'->Inv X pins B H'' { s1 with heap:=h' })->H'' C=none->C≠X.env.locals->C∉X.fs->X.s0.heap.objs.size<=C ->
   (∀ x c,X.env.cells.lookup x=some c->c≠C)->(∀ p∈X.pn++pins,p.1≠C)->(∃ Z,Kp H H''/\zAG X.K H'' (U++Z) (y.2++[y.1])/\DenW X.K H'' (U++Z) (.loc y.2.length) (.ref D))->RR (.ref D) C (.ok .next) s1) :
  wpAny (model X.prog X.w) X.A (eval iter X.env) (λx O3=>wpAny (model X.prog X.w) X.A (pyIter x) (λit O9=>wpAny (model X.prog X.w) X.A (newList []) (λacc Y2 =>
   wpAny (model X.prog X.w) X.A (newFunctionEnv scope X.env.globals (zCI X.env scope.names []) [] X.env.qual none .none (some X.env)) (λcenv Z4 =>
    codeAny (model X.prog X.w) X.A (.compStart (.ListComp elt [⟨tg,iter,[],0⟩] scope pos) 0 it acc { cenv with scope:=relabel scope X.env }) (RR acc cenv.locals) Z4) X.xe Y2) X.xe O9) X.xe O3) X.xe s:=by
 obtain⟨wi,hwi,hI⟩:=hi;refine thn (hwi pins s B H (λJ H1=>∃ Z,Kp H H1/\zAG X.K H1 (U++Z) z.2/\JOk X.K J z.1 H1 (U++Z)) I (hI B H U O G z _ mst ez λJ H1 Z k1 c1 hJ=>⟨Z,k1,c1,hJ⟩)) λv s1 h1=>thn h1 λitv s2 h2=>?_
 obtain⟨it,fp,tn,J,H2,rfl,I2,T,st2,f2,Z0,k12,c12,hJ⟩:=h2;have mst2:MS X.K H2 (U++Z0) z.2 B O:=mst.next k12 c12;refine wpAny_newObj_type (zD1 ?_);have e3:∃ s3:Shared,s3={ s2 with heap:=s2.heap.push { cls:=.type "list",dict:=none,data:=.seq ([]:List Value).toArray } }:=⟨_,rfl⟩;obtain⟨s3,hs3⟩:=e3;rw[<- hs3];have eD:∃ D,D=s2.heap.objs.size:=⟨_,rfl⟩;obtain⟨D,hD⟩:=eD;rw[<- hD];have hC:s3.heap.objs.size=D+1:=by rw[hs3,hD];exact Heap.size_push ..
 have k23:∀ b o,s2.heap.get? b=some o->s3.heap.get? b=some o:=λb o q=>by rw[hs3];exact get?_push_of_some _ q
 have I3:Inv X pins B H2 s3:=by rw[hs3];exact I2.kept (t':=s2.toks) λb o q=>get?_push_of_some _ q
 have oD:s3.heap.get? D=some { cls:=.type "list",data:=.seq ([]:List Value).toArray }:=by rw[hs3,hD];exact get?_push_size _ rfl
 have H2D:H2 D=none:=by rw[hD];exact I2.hok.fresh (le_refl _)
 have fplt:∀ b∈fp,b < D:=λb hb=>by
  obtain⟨o,q,_⟩:=T.obj _ _ st2 b hb;rw[hD];exact lt_size q
 have hfD:∀ b∈D::fp,FpOk X pins H2 b/\∃ o,s3.heap.get? b=some o:=λb hb=>by
  rcases mem_cons.mp hb with rfl | hb
  .exact ⟨I2.fpOk (by rw[hD];exact le_refl _) H2D,_,oD⟩
  .obtain ⟨o,q,_⟩:=T.obj _ _ st2 b hb;exact⟨f2 b hb,o,k23 b o q⟩
 have lenN:(mask none ms B++List.replicate xs.length none).length=(mask noN ms X.N++xs).length:=by
  rw[qj,qj,zA0,zA0,length_replicate,I.len]
 have Ic:=zHl (fp:=D::fp) (N:=mask noN ms X.N++xs) (σc:=mask none ms B++List.replicate xs.length none) I3 hfD cs (λi x v q1 q2 q3=>by
  obtain⟨q2,hi2⟩:=zB6 q2;rcases zBP q2 with ⟨z,_⟩ | ⟨q2,ni⟩
  .cases z
  have hiN:i < (mask noN ms X.N).length:=by rw[zA0] at hi2 ⊢;rw[<- I.len];exact hi2
  rw[getElem?_append_left hiN] at q1;rcases zBP q1 with ⟨_,z⟩ | ⟨q1,_⟩
  .exact absurd z ni
  refine⟨?_,i,q1,q2⟩;have no:ownB scope x=false:=by
   cases b:ownB scope x with
   | false=>rfl
   | true=>exact absurd (hm i x q1 b) ni
  unfold Vis relS at q3;rw[zC0] at q3;unfold ownB at no;cases w:scope.names.lookup x with
  | none=>rw[w] at q3;simp at q3
  | some k =>
   rw[w] at no;cases k with
   | free=>rfl
   | «local»=>cases no
   | cell=>cases no
   | _=>rw[w] at q3;simp at q3) lenN
 have st4:tn 0 (pushCells (s3.heap.push { cls:=.type "dict",data:=.dict #[] }) scope.names):=T.keep 0 _ _ st2 λb hb o q=>zAr _ _ b o (get?_push_of_some _ (k23 b o q))
 have loop:codeAny (model X.prog X.w) X.A (.compLoop (.ListComp elt [⟨tg,iter,[],0⟩] scope pos) 0 (.ref it) (.ref D) (zBn scope X s3)) (RR (.ref D) s3.heap.objs.size) { s3 with heap:=pushCells (s3.heap.push { cls:=.type "dict",data:=.dict #[] }) scope.names }:=by
  refine zDd (λn s'=>∃ (i:Nat) (O1:St) (H':Hp) (γ:List CA) (st':Mst) (done:List W) (vs:List V) (its:List Value),Inv (zAW X (mask noN ms X.N++xs) scope s3 H2 (D::fp)) [] O1 H' s'/\tn i s'.heap/\(∀ b∈D::fp,H' b=none)/\s'.heap.PlainList D its.toArray/\Vals vs its/\MS X.K H' (U++Z0++γ) st'.G O1 st'.O /\
   Kp H2 H'/\DenWL X.K H' (U++Z0++γ) done vs/\zCH t e z.1 n i st' done=some y) ?_ NN
   ⟨0,_,H2,[],⟨mask none ms O++List.replicate xs.length none,z.2⟩,[],[],[],Ic,st4,λb hb=>(hfD b hb).1.1,⟨_,zAr _ _ D _ (get?_push_of_some _ oD)⟩,.nil,by rw[append_nil];exact mst2.ext ms xs.length,Kp.refl _,.nil,ey⟩
  rintro n s' ⟨i,O1,H',γ,st0,done,vs,its,Ic',st',fr',⟨nD,pl⟩,rv,ds',sm,dn,ec⟩;cases n with
  | zero=>cases ec
  | succ n =>
  rw[zCH] at ec;obtain⟨ws,ew,ec⟩:=bind_some ec;obtain⟨j1,j2⟩:=hJ i H' γ st0.G ws sm ds'.cells ew;have fpc:∀ {b:Addr} {pn:List (Addr×Obj)} {Hx:Hp},b∈D::fp->Hx b=none->(∀ p∈pn,p.1≠b)->FpOk (zAW X (mask noN ms X.N++xs) scope s3 H2 (D::fp)) pn Hx b:=λ{b pn Hx} hb hn hp =>
   ⟨hn,(Ic'.ok.exf b hb).1,Ic'.ok.exfs b hb,.inl hb,(Ic'.ok.exf b hb).2,λp hp'=>hp p (show p∈pn from hp')⟩
  have pinD:∀ {p:Addr×Obj} {h:Heap},p∈zBM [D] h->p.1=D:=λ{p h} hp=>by simpa using (zDy hp).1
  have I0:Inv (zAW X (mask noN ms X.N++xs) scope s3 H2 (D::fp)) ([]++zBM [D] s'.heap) O1 H' s':=Ic'.pinned (fp:=[D]) (λb hb=>by
   have eb:b=D:=by simpa using hb
   subst eb;exact fpc q8 (fr' _ q8) λp hp=>absurd hp (by simp)) λb hb=>by
   have eb:b=D:=by simpa using hb
   subst eb;exact⟨_,pl,λv z=>by cases z⟩
  have fp0:∀ b∈fp,FpOk (zAW X (mask noN ms X.N++xs) scope s3 H2 (D::fp)) ([]++zBM [D] s'.heap) H' b:=λb hb=>fpc (qY _ hb) (fr' b (qY _ hb)) λp hp z=>by
   have q1:=pinD (by simpa using hp);have q2:=fplt b hb;rw[<- z,q1] at q2;exact absurd q2 (lt_irrefl _)
  have memD:(D,_)∈zBM [D] s'.heap:=zBr (by simp) pl;cases hq:ws[i]? with
  | some w0 =>
   rw[hq] at ec;dsimp only at ec;obtain⟨go,yl⟩:=j2 w0 hq;refine wpAny_mono (T.item (zAW X (mask noN ms X.N++xs) scope s3 H2 (D::fp)) rfl rfl rfl hcalm i ([]++zBM [D] s'.heap) s' O1 H' _ I0 fp0 st' go) (λr s4 zz110=>?_) λ_ _ z=>z
   obtain⟨u,hr,h4⟩:=zz110;subst hr;refine wpAny_mono h4 (λ_ s5 zz111=>?_) λ_ _ z=>z
   obtain⟨x,H5,I5,r5,y5,st5,fr5⟩:=zz111;obtain⟨rfl,hv⟩:=yl x H5 y5;have pl5:=(I5.pin (D,_) (xq _ (xq _ memD))).1;have I5':Inv (zAW X (mask noN ms X.N++xs) scope s3 H2 (D::fp)) ([]++zBM (D::fp) s5.heap) O1 H5 s5:=I5.unpinned.pinned (fp:=D::fp) (λb hb=>fpc hb (fr' b hb) λp hp=>absurd hp (by simp)) λb hb=>by
    rcases mem_cons.mp hb with rfl | hb
    .exact ⟨_,pl5,λv z=>by cases z⟩
    .exact T.obj _ _ st5 b hb
   have there:∀ {Hx:Hp} {sx:Shared} {Bx:St},Inv (zAW X (mask noN ms X.N++xs) scope s3 H2 (D::fp)) ([]++zBM (D::fp) s5.heap) Bx Hx sx->∀ b∈D::fp,(∀ o,s5.heap.get? b=some o->sx.heap.get? b=some o)/\Hx b=none:=λ{Hx sx Bx} Ix b hb=>by
    have q:∃ o,s5.heap.get? b=some o:=by
     rcases mem_cons.mp hb with rfl | hb
     .exact ⟨_,pl5⟩
     .obtain ⟨o,q,_⟩:=T.obj _ _ st5 b hb;exact⟨o,q⟩
    obtain⟨o,q⟩:=q;have w:=Ix.pin (b,o) (xq _ (xq _ (zBr hb q)));exact⟨λo' q'=>by rw[q] at q';cases q';exact w.1,w.2.1⟩
   obtain⟨st1,e1,ec⟩:=bind_some ec;obtain⟨r,er,ec⟩:=bind_some ec;by_cases hdl:done.length<=10000
   case neg=>rw[if_neg hdl] at ec;cases ec
   rw[if_pos hdl] at ec;obtain⟨g,hg1,hg2⟩:=hg s3 H2 (D::fp);refine wpAny_mono (hg1 _ s5 O1 H5 x u _ I5' r5 (hg2 w0 x O1 H5 (U++Z0++γ) st0 st1 (λB6 H6=>H6=H5/\MS X.K H5 (U++Z0++γ) st1.G B6 st1.O) ds' hv e1 λB6 d6=>⟨rfl,d6⟩)) (λ_ s6 zz112=>?_) λ_ _ z=>z.elim
   obtain⟨B6,H6,I6,q6,ds6⟩:=zz112;subst q6;refine wpAny_tests_nil ?_;rw[if_pos rfl];refine wpAny_mono (he s3 H2 (D::fp) _ s6 B6 H6 (λv H8=>∃ O4,Kp H6 H8/\zAG X.K H8 (U++Z0++γ++O4) r.2/\DenW X.K H8 (U++Z0++γ++O4) r.1 v) I6 ⟨U++Z0++γ,st1.O,st1.G,r,ds6,er,λv H8 O4 k8 c8 d8=>⟨O4,k8,c8,d8⟩⟩) (λuv s8 zz113=>?_) λ_ _ z=>z.elim
   obtain⟨v,H8,I8,rv8,O4,k8,c8,d8⟩:=zz113;have assoc:U++Z0++γ++O4=U++Z0++(γ++O4):=by simp
   have pl8:=(there I8 D q8).1 _ pl5;refine wpAny_list_append_plain (hsz:=by rw[xy,<- rv.length,<- dn.length];exact zCe hdl) ⟨nD,pl8⟩ λh9 hl9 hs9=>?_
   have I9:Inv (zAW X (mask noN ms X.N++xs) scope s3 H2 (D::fp)) [] B6 H8 { s8 with heap:=h9 }:=I8.unpinned.turned (it:=D) (t':=s8.toks) (λb o hb q=>hs9.extBut b o hb q) (there I8 D q8).2 (Ic'.ok.exf D q8).1 (.inl q8) (Ic'.ok.exf D q8).2 λp hp=>absurd (show p∈([]:List (Addr×Obj)) from hp) (by simp)
   have ms8:=ds6.next k8 c8;rw[assoc] at ms8 d8;refine⟨n,Nat.lt_succ_self n,i+1,B6,H8,γ++O4,⟨st1.O,r.2⟩,done++[r.1],vs++[v],its++[uv],I9,T.keep _ _ _ st5 λb hb o q=>hs9.extBut b o (λz=>?_) ((there I8 b (qY _ hb)).1 o q),λb hb=>(there I8 b hb).2,?_,rv.append (.cons rv8 .nil),ms8,
    sm.trans k8,DenWL.append (by rw[<- assoc];exact dn.mono k8 O4) (.cons d8 .nil),ec⟩
   .have:=fplt b hb;rw[z] at this;exact absurd this (lt_irrefl _)
   .have ea:its.toArray.push uv=(its++[uv]).toArray:=by simp
    rw[<- ea];exact hl9
  | none =>
   rw[hq] at ec;cases ec;refine wpAny_mono (T.done (zAW X (mask noN ms X.N++xs) scope s3 H2 (D::fp)) rfl rfl rfl hcalm _ ([]++zBM [D] s'.heap) s' O1 H' _ I0 fp0 st' (j1 hq)) (λr s4 zz114=>?_) λ_ _ z=>z
   obtain⟨hr,I4⟩:=zz114;subst hr;obtain⟨m,ns,_⟩:=id I4.loc;have eC:(zAW X (mask noN ms X.N++xs) scope s3 H2 (D::fp)).env.locals=D+1:=hC;rw[eC] at ns;have pl4:=I4.pin (D,_) (xq _ (xq _ memD));have HD:H' D=none:=pl4.2.1;have HC:H' (D+1)=none:=by have:=I4.free;rw[eC] at this;exact this
   have CD:D≠D+1:=ne_of_lt (Nat.lt_succ_self D);have neD:∀ {b:Addr} {o:HO},H' b=some o->b≠D:=λ{b o} q z=>by rw[z,HD] at q;cases q
   have ne2:∀ {b:Addr} {o:HO},H2 b=some o->b≠D:=λ{b o} q z=>by rw[z,H2D] at q;cases q
   have lt2:∀ {b:Addr} {o:Obj},s2.heap.get? b=some o->b < D:=λ{b o} q=>by rw[hD];exact lt_size q
   have outex:∀ {b:Addr} {o:Obj},s2.heap.get? b=some o->b∉fp->b∉D::fp:=λ{b o} q hx z=>(mem_cons.mp z).elim (λz=>absurd (lt2 q) (by rw[z];exact lt_irrefl _)) hx
   have neC:∀ {b:Addr} {o:Obj},s2.heap.get? b=some o->b≠D+1:=λ{b o} q=>ne_of_lt (Nat.lt_succ_of_lt (lt2 q))
   have gt2:s2.heap.objs.size<=D+1:=by rw[<- hD];exact Nat.le_succ _
   show RR (.ref D) s3.heap.objs.size (.ok .next) s4;rw[hC];refine fin D (D+1) s4 (upd H' D (.lst vs)) m ns (λh' sb=>?_) ?_ (Nat.ne_of_gt (xQ I2.lt gt2)) (I2.nofs gt2) (le_trans I2.sz gt2) (λx c q z=>?_) (λp hp z=>?_) ?_
   .refine I2.call' (s':={ s4 with heap:=h' }) (ch:=fp) ?_ ⟨λb o q n hb hx=>sb.extBut b o (neC q) (I4.base.keep b o (k23 b o q) n hb (outex q hx)),λb o q n hb hx=>?_,λb o q n hx=>?_,λb o q hx=>?_,λb ws q=>?_,λb o w q=>?_,λb ps q=>?_⟩ (λb w q=>?_) I4.bare λb hb=>?_
    .have:=I4.os;rw[hs3] at this;exact this
    .obtain ⟨sl,w⟩:=I4.base.slot b o (k23 b o q) n hb (outex q hx);exact⟨sl,sb.extBut b _ (neC q) w⟩
    .rw [zAN (ne_of_lt (lt2 q))];exact I4.base.free b o (k23 b o q) n (outex q hx)
    .obtain ⟨o',w⟩:=I4.base.there b o (k23 b o q) (outex q hx);exact⟨o',sb.extBut b _ (neC q) w⟩
    .rw [zAN (ne2 q)];exact I4.base.tups b ws q
    .rw [zAN (ne2 q)];exact I4.base.frzs b o w q
    .rw [zAN (ne2 q)];exact I4.base.tbls b ps q
    .by_cases z:b=D
     .subst z;rw[zAX] at q;cases q;exact⟨by rw[<- dn.length];exact zCe hyl,its,nD,rv,sb.extBut b _ CD pl4.1⟩
     .rw [zAN z] at q;refine(I4.hok b w q).stay (λd v hd w'=>sb.extBut d v (λz'=>?_) w') (λd w'=>by rw[zAN (neD w')];exact w') (λd ws w'=>by rw[zAN (neD w')];exact w') λd ob u w' _=>by rw[zAN (neD w')];exact w'
      rcases hd with hd | hd
      .rw [<- hd,z',HC] at q;cases q
      .rw [z',HC] at hd;cases hd
    .obtain ⟨f0,f1,f2',f3,f4,f5⟩:=f2 b hb;exact⟨f3,f1,f4,f5⟩
   .rw [zAN (Ne.symm CD)];exact HC
   .obtain ⟨v,w⟩:=I2.cell x c q;have:=w.lt;rw[z,<- hD] at this;exact absurd (Nat.lt_trans this (Nat.lt_succ_self D)) (lt_irrefl _)
   .have:=lt_size (I2.pin p hp).1;rw[z,<- hD] at this;exact absurd (Nat.lt_trans this (Nat.lt_succ_self D)) (lt_irrefl _)
   .have s9:Same H' (upd H' D (.lst vs)):=zAf HD _;refine⟨Z0++γ++[(D,CK.lst)],k12.trans (sm.trans (zBB s9)),?_,?_⟩
    .rw [show U++(Z0++γ++[(D,CK.lst)])=U++Z0++γ++[(D,CK.lst)] by simp];exact ds'.cells.new s9 HD zAX (dn.mono (zBB s9) [(D,CK.lst)])
    .rw [show U++(Z0++γ++[(D,CK.lst)])=U++Z0++γ++[(D,CK.lst)] by simp];exact zGs ds'.cells
 exact codeAny_compStart_list loop (T.self X.A 0 _ _ _ st4 loop)
theorem zJ1 (hcalm:X.calm=true)(hi:GIM X tg iter f)(hs:∀ x,foldedSetIterable iter X.env x=pure x)(cs:zCv X.env.scope scope)
  (hm:∀ (i:Nat) x,X.N[i]?=some x->ownB scope x=true->i∈ms)
  (hg:∀ s H fp,GGM (zAW X (mask noN ms X.N++xs) scope s H fp) tg t)
  (he:∀ s H fp,GM (zAW X (mask noN ms X.N++xs) scope s H fp) elt e) :
  GM X (.ListComp elt [⟨tg,iter,[],0⟩] scope pos) (zHD ms xs.length f t e):=by
 intro pins s B H Q I ⟨U,O,G,r,mst,er,cc⟩;obtain⟨z,y,NN,ez,ey,hyl,rfl⟩:=zGL er;refine wpAny_comprehension_free (use:=none) rfl hs (zBo (zEO I cs)) cs.kind (zC3 cs) ?_;refine zEv hcalm hi cs hm hg he I mst ez hyl ey λD C s1 H'' m ns hI _ _ _ _ _ _ fin=>?_
 obtain⟨Z,k,c1,d1⟩:=fin;exact⟨m,ns,λh' sb=>⟨.ref D,H'',hI h' sb,rfl,cc _ H'' Z k c1 d1⟩⟩
end
end DL
end
section
namespace DL
open PySem Spec PyProof.Rows L2
section
variable {X:Cx}
theorem zLw (hcalm:X.calm=true)(hi:GIM X tg iter f)(hs:∀ x,foldedSetIterable iter X.env x=pure x)(cs:zCv X.env.scope scope)
  (hm:∀ (i:Nat) x,X.N[i]?=some x->ownB scope x=true->i∈ms)
  (hg:∀ s H fp,GGM (zAW X (mask noN ms X.N++xs) scope s H fp) tg t)
  (he:∀ s H fp,GM (zAW X (mask noN ms X.N++xs) scope s H fp) elt e)
  (hN:X.N.Nodup) (hy:X.N[i]?=some y) (hl:Loc X.env.scope y) (hf:X.fn y=true\/X.env.scope.names.lookup y=some .local) :
  GSM X (.Assign [.Name y py] (.ListComp elt [⟨tg,iter,[],0⟩] scope pos) spos) (setM i (zHD ms xs.length f t e)):=by
 have hge:GM X (.ListComp elt [⟨tg,iter,[],0⟩] scope pos) (zHD ms xs.length f t e):=zJ1 hcalm hi hs cs hm hg he;have hb:∃ b,swapsWith (.ListComp elt [⟨tg,iter,[],0⟩] scope pos) (some (.Name y py)) spos.line X.env=pure b:=⟨_,rfl⟩;obtain⟨b,hb⟩:=hb;cases b with
 | false=>exact zJy hN hy hl hge hb hf
 | true =>
  intro H0 α0 pins s B H E I ⟨Z,st,o,mst,kp,eo,p⟩;obtain⟨r,er,eo⟩:=bind_some eo;cases eo;obtain⟨z,yy,NN,ez,ey,hyl,rfl⟩:=zGL er;rw[exec_Assign_Name_used _ _ _ _ hb];refine qQ (wpAny_standAt (qQ ?_));refine qQ (wpAny_mono (wpAny_comprehension_free (use:=some (assign (.Name y py) X.env)) (Q:=λ_ s'=>SP X pins E .next s') rfl hs (zBo (zEO I cs)) cs.kind (zC3 cs) ?_) (λ_ s' hq=>q9 (q9 hq)) λ_ _ e=>e);refine zEv (RR:=λacc C=>compPost (model X.prog X.w) X.A X.xe (some (assign (.Name y py) X.env)) (λ_ s'=>SP X pins E .next s') acc C) hcalm hi cs hm hg he I mst ez hyl ey λD C s1 H'' m ns hI hC1 hC2 hC3 hC4 hC5 hC6 fin=>?_
  have I1:Inv X pins B H'' s1:=hI s1.heap (Heap.SameBut.refl ..);obtain⟨oC,es,ep,ho,hd,w3⟩:=id ns;have I2:Inv X (pins++[(C,oC)]) B H'' s1:=I1.pins_of λq hq=>(mem_append.mp hq).elim (λz=>I1.pin q (xq _ z)) λz=>by
   have e:q=(C,oC):=by simpa using z
   subst e;exact⟨ho,hC1,hC2,hC3,λv z=>by rw[hd] at z;cases z⟩
  show wpAny (model X.prog X.w) X.A (assign (.Name y py) X.env (.ref D)) _ X.xe s1;refine thn (zFN hN hy hl hf _ s1 B H'' (.ref D) (.ref D) (λB6 H6=>H6=H''/\B6=B.set i (some (.ref D))) I2 rfl ⟨rfl,rfl⟩) λ_ s6 zz115=>?_
  obtain⟨B6,H6,I6,q1,q2⟩:=zz115;subst q1 q2;have pc:=I6.pin (C,oC) (xq _ (xq _ (by simp)));refine⟨m,⟨oC,es,ep,pc.1,hd,w3⟩,λh' sb=>?_⟩;refine⟨_,H6,I6.unpinned.turned (it:=C) (t':=s6.toks) (λb o hb q=>sb.extBut b o hb q) hC1 (Ne.symm (Ne.symm hC2)) (.inr hC4) hC5 hC6,?_⟩;obtain⟨Z2,k2,c2,d2⟩:=fin;have m2:=(mst.next k2 c2).set (i:=i) d2;rw[qJ] at m2;exact p (Z++Z2) _ _ m2 (kp.trans k2)
end
inductive SK where
 | mth (c m:Str) | mk (c kw:Str)
 deriving DecidableEq
noncomputable def spec:List (Str×SK):=[("Fill.films",.mth "Fill" "films"),("Rub.films",.mth "Rub" "films"),("Masked.films",.mth "Masked" "films"),("Join.films",.mth "Join" "films"),("Group.films",.mth "Group" "films"),("Picture.add",.mth "Picture" "add"),("Picture.drop",.mth "Picture" "drop"),("Picture.change",.mth "Picture" "change"),("Picture.lift",.mth "Picture" "lift"),("Picture.numbers",.mth "Picture" "numbers"),("Picture.layer_by",.mth "Picture" "layer_by"),("Picture.renew",.mth "Picture" "renew"),("Picture.cells",.mth "Picture" "cells"),("Picture.check_lies",.mth "Picture" "check_lies"),("Picture.lay",.mth "Picture" "lay"),("Picture.mark",.mth "Picture" "mark"),("Picture.ground_at",.mth "Picture" "ground_at"),("Fill()",.mk "Fill" "strength"),("Rub()",.mk "Rub" "strength"),("Masked()",.mk "Masked" "strength"),("Join()",.mk "Join" "strength"),("Group()",.mk "Group" "strength"),("Picture()",.mk "Picture" "watcher")]
abbrev Dm:=List (Str×MF)
def spI (K:W.Frag)(C:Addr)(F:MF):Sp:=λvs H Q _=>∃ x dx H1 us U G ws r,vs=.ref x::us/\H1 x=none/\H1 dx=none/\dx≠x/\H=upd (upd H1 dx (.own x)) x (.ins C dx [])/\zAG K H1 U G/\DenWL K H1 U ws us/\F ws G=some r /\
 ∀ H' Z,Kp H1 H'->zAG K H' (U++Z) r.2->DenW K H' (U++Z) r.1 (.ref x)->Q .non H'
def KB (K:W.Frag)(fd:FuncData)(ps:List Str)(kw:Str):Prop:=∀ (s:Shared) (us:List Value) (u:Value),K.In s.heap->(us++[u]).length=ps.length->BindsTo s fd ⟨us,[(kw,u)]⟩ (ps.zip (us++[u]))
def zK2 (P:Program)(w:World)(K:W.Frag)(mg:Str->Option Value)(base:Heap)(k:Nat)(x:Str)(F:MF):Option SK->Prop
 | none=>∃ f fd ps,FnOk P w K mg base CX0 k f fd ps (spM K F)/\mg x=some (.ref f)/\W.keepIn K (.ref f)=true/\zBb K fd ps []
 | some (.mth c m)=>∃ C f fd ps,zB0 K c C/\Cls K C/\Meth K C m f/\FnOk P w K mg base CX0 k f fd ps (spM K F)/\zBb K fd ps []
 | some (.mk c kw)=>∃ j C f fd ps,j < k/\mg c=some (.ref C)/\Mk K C f/\FnOk P w K mg base CX0 j f fd ps (spI K C F)/\zBb K fd ps []/\zBb K fd ps [.none]/\KB K fd ps kw
theorem zK2.mono {K:W.Frag}(h:zK2 P w K mg base j x F o)(e:j<=k):zK2 P w K mg base k x F o:=by
 match o,h with
 | none,⟨f,fd,ps,h1,h2⟩=>exact⟨f,fd,ps,h1.mono e,h2⟩
 | some (.mth c m),⟨C,f,fd,ps,h1,h2,h3,h4,h5⟩=>exact⟨C,f,fd,ps,h1,h2,h3,h4.mono e,h5⟩
 | some (.mk c kw),⟨i,C,f,fd,ps,h1,h2⟩=>exact⟨i,C,f,fd,ps,xQ h1 e,h2⟩
def DmOk (P:Program)(w:World)(K:W.Frag)(mg:Str->Option Value)(base:Heap)(k:Nat)(Y:Dm):Prop :=
 ∀ x F,(x,F)∈Y->zK2 P w K mg base k x F (spec.lookup x)
theorem zFd {K:W.Frag}(h1:zB0 K c A)(h2:zB0 K c B):A=B:=by
 rw[zB0] at h1 h2;grind
theorem zKh (h:zEJ gs=true)(n:zFQ.contains m=false):gs.lookup m=none:=by
 cases e:gs.lookup m with
 | none=>rfl
 | some v =>
  unfold zEJ zKi at h;rw[x8,all_eq_true] at h;have:=h.2 m (mem_map.mpr ⟨_,PySem.mem_of_lookup e,rfl⟩);grind
section
variable {X:Cx}{k:Nat}{Y:Dm}
noncomputable def fldM (ob:List (Str×Str×Option Bool))(f:Str)(g:Mst->Option MR):Mst->Option MR:=λs=>(g s).bind λx=>match x.1 with
 | .obj c ns l=>if (c,f,none)∈ob then ((ns.zip l).lookup f).map λw=>(w,x.2) else none
 | .ob c ns n=>if (c,f,none)∈ob then (x.2[n]?).bind λws=>((ns.zip ws).lookup f).map λw=>(w,x.2) else none
 | _=>none
theorem zGo {K:W.Frag}{H:Hp}{U:List CA}{f:Str}{w:W}:∀ {gs:List (Str×V)} {l:List W},DenWL K H U l (gs.map (·.2))->((gs.map (·.1)).zip l).lookup f=some w->∃ v,gs.lookup f=some v/\DenW K H U w v
 | [],_,_,e=>by simp at e
 | (n,u)::gs,[],_,e=>by simp at e
 | (n,u)::gs,x::l,t,e=>by
  rw[map_cons,DenWL] at t;obtain⟨v,us,e1,t1,t2⟩:=t;cases e1;rw[map_cons,List.zip_cons_cons,lookup_cons] at e;rw[lookup_cons];dsimp only at e ⊢;by_cases q:(f==n)=true
  .rw [q] at e ⊢;cases e;exact⟨u,rfl,t1⟩
  .rw [Bool.not_eq_true] at q;rw[q] at e ⊢;exact zGo t2 e
theorem zHp {K:W.Frag}{gs:List (Str×V)}:∀ {ns:List Str} {vs:List V} {l:List W},(ns.map λn=>gs.lookup n)=vs.map some->DenWL K H U l vs->(ns.zip l).lookup f=some d->∃ v,gs.lookup f=some v/\DenW K H U d v
 | [],_,_,_,_,e=>by simp at e
 | n::ns,vs,[],_,_,e=>by simp at e
 | n::ns,vs,x::l,h,t,e=>by
  rw[DenWL] at t;obtain⟨v,us,rfl,t1,t2⟩:=t;simp only[map_cons,List.cons.injEq] at h;rw[List.zip_cons_cons,lookup_cons] at e;by_cases q:(f==n)=true
  .rw [q] at e;cases e;exact⟨v,by rw[eq_of_beq q];exact h.1,t1⟩
  .rw [Bool.not_eq_true] at q;rw[q] at e;exact zHp h.2 t2 e
theorem zRP (ha:GM X e g)(hb:attributeBase e fl X.env (eval e X.env)=eval e X.env)(ho:∀ c,(c,fl,none)∈ob->∀ C,zB0 X.K c C->Cls X.K C/\zBT X.K C fl):GM X (.Attribute e fl pos) (fldM ob fl g):=by
 refine(zM3 ha hb).imp λB H Q zz116=>?_
 obtain⟨U,O,G,r,ms,q,cc⟩:=zz116;obtain⟨x,ex,q⟩:=bind_some q;split at q
 .rename_i c ns l hx;by_cases m:(c,fl,none)∈ob
  .rw [if_pos m] at q;obtain⟨w,e1,e2⟩:=x9.mp q;cases e2;refine⟨U,O,G,x,ms,ex,λv H1 Z k1 c1 dv=>?_⟩;have dv':=dv;rw[hx,DenW] at dv';obtain⟨a,vs,rfl,⟨C,dx,gs,h1,h2,h3,h4⟩,h5⟩:=dv';obtain⟨u,q1,q2⟩:=zHp h4 h5 e1;obtain⟨o1,o2⟩:=ho c m C h3;exact⟨a,C,dx,gs,u,rfl,zBh _ _ h1,o1,o2,q1,cc u H1 Z k1 c1 q2⟩
  .rw [if_neg m] at q;cases q
 .rename_i c ns n hx;by_cases m:(c,fl,none)∈ob
  .rw [if_pos m] at q;obtain⟨ws,e0,q⟩:=bind_some q;obtain⟨w,e1,e2⟩:=x9.mp q;cases e2;refine⟨U,O,G,x,ms,ex,λv H1 Z k1 c1 dv=>?_⟩;rw[hx,DenW] at dv;obtain⟨a,ha,rfl⟩:=dv;obtain⟨C,dx,gs,h1,h2,h3,h4,h5⟩:=c1.cell' ha e0;subst h4;obtain⟨u,q1,q2⟩:=zGo h5 e1;obtain⟨o1,o2⟩:=ho c m C h3;exact⟨a,C,dx,gs,u,rfl,h1,o1,o2,q1,cc u H1 Z k1 c1 q2⟩
  .rw [if_neg m] at q;cases q
 .cases q
noncomputable def clsW (m:Str):W->Option Str
 | .obj c _ _=>if zFQ.contains m=true then none else some c
 | .ob c ns _=>if ns.contains m=true then none else some c
 | _=>none
theorem zNa {K:W.Frag}(cc:zAG K H U G)(h:clsW m w=some c)(d:DenW K H U w v):∃ a C dx gs,v=.ref a/\H a=some (.ins C dx gs)/\zB0 K c C/\gs.lookup m=none:=by
 unfold clsW at h;split at h
 .by_cases q:zFQ.contains m=true
  .rw [if_pos q] at h;cases h
  rw[if_neg q] at h;cases h;rw[DenW] at d;obtain⟨a,vs,rfl,⟨C,dx,gs,h1,h2,h3,h4⟩,h5⟩:=d;exact⟨a,C,dx,gs,rfl,zBh _ _ h1,h3,zKh h2 (by simpa using q)⟩
 .rename_i c' ns n;by_cases q:ns.contains m=true
  .rw [if_pos q] at h;cases h
  rw[if_neg q] at h;cases h;rw[DenW] at d;obtain⟨a,ha,rfl⟩:=d;obtain⟨ws,e0,C,dx,gs,h1,h2,h3,h4,h5⟩:=cc.cell ha;refine⟨a,C,dx,gs,rfl,h1,h3,?_⟩;cases e:gs.lookup m with
  | none=>rfl
  | some v =>
   refine absurd ?_ q;rw[<- h4,List.contains_iff_mem];exact mem_map.mpr ⟨_,PySem.mem_of_lookup e,rfl⟩
 .cases h
theorem zF5 (hbase:attributeBase o m env (eval o env)=eval o env)(hfew:methodCallForm (args.length+([]:List Keyword).length) (backTo pos (starEach args env)) (backToKw pos (keywordEach [] env))=true)(hline:(apos.endLine==pos.line)=true) :
  eval (.Call (.Attribute o m apos) args [] pos) env=(do
   let ov<-eval o env
   standAt apos.atName
   let (f,first)<-holding [ov] (getMethod ov m (do return (<- importBound o env).getD true))
   callWith pos f first (backTo pos (starEach args env)) (backToKw pos (keywordEach [] env))):=by
 rw[arm_eval_Call,hbase];unfold methodCall calleeOf methodCallPos;simp only[hfew,hline,if_true,Bool.not_true,Bool.or_true,pure_bind]
noncomputable def mthM (Y:Dm)(ix:List (Str×Nat))(m:Str)(f:Mst->Option MR)(g:Mst->Option MA):Mst->Option MR:=λs=>(f s).bind λx=>(clsW m x.1).bind λc=>(ix.lookup c).bind λn=>(Y[n]?).bind λe=>if spec.lookup e.1=some (.mth c m) then (g ⟨s.O,x.2⟩).bind λws=>e.2 (x.1::ws.1) ws.2 else none
theorem zRK {m:Str}{o:Expr}{apos pos:Pos}{e:Expr}{es:List Expr}{ix:List (Str×Nat)}{f:Mst->Option MR}{g:Mst->Option MA}(he:GM X o f)(ha:GAM X (e::es) g)(d:DmOk X.prog X.w X.K X.mg X.base k Y)(hr:Room k X.A)
  (hst:starEach (e::es) X.env=(false,eval e X.env)::starEach es X.env) (hpl:(backTo pos (starEach es X.env)).any (·.1)=false) (hbase:attributeBase o m X.env (eval o X.env)=eval o X.env) (hfew:methodCallForm ((e::es).length+([]:List Keyword).length) (backTo pos (starEach (e::es) X.env)) (backToKw pos (keywordEach [] X.env))=true) (hline:(apos.endLine==pos.line)=true):GM X (.Call (.Attribute o m apos) (e::es) [] pos) (mthM Y ix m f g):=by
 intro pins s B H Q I ⟨U,O,G,r,ms,q,cc⟩;obtain⟨x,ex,q⟩:=bind_some q;obtain⟨c,hc,q⟩:=bind_some q;obtain⟨n,en,q⟩:=bind_some q;obtain⟨ent,ee,q⟩:=bind_some q;by_cases hk:spec.lookup ent.1=some (.mth c m)
 .rw [if_pos hk] at q;obtain⟨ws,ew,q⟩:=bind_some q;have D:=d ent.1 ent.2 (mem_of_getElem? ee);rw[hk] at D;obtain⟨C,fa,fd,ps,d1,d2,d3,d4,d5⟩:=D;refine zNz (C:=C) he d2 d3 d4 hr d5 .nil zIJ ha hst hpl (zF5 hbase hfew hline) pins s B H Q I ?_;refine⟨U,O,G,x,ms,ex,λv H1 Z k1 c1 dv=>?_⟩;obtain⟨a,C',dx,gs,rfl,h1,h2,h3⟩:=zNa c1 hc dv;obtain rfl:=zFd d1 h2;refine⟨a,dx,gs,rfl,h1,h3,U++Z,O,x.2,ws,ms.next k1 c1,ew,λus H2 Z2 k2 c2 d2'=>?_⟩;show spM X.K ent.2 (.ref a::(us++[])) H2 Q E0;rw[append_nil];exact⟨U++Z++Z2,ws.2,x.1::ws.1,r,c2,.cons (dv.mono k2 Z2) d2',q,λv H3 Z3 k3 c3 d3=>cc v H3 (Z++(Z2++Z3)) (k1.trans (k2.trans k3)) (by simp_all) (by rw[<- qJ,<- qJ];exact d3)⟩
 .rw [if_neg hk] at q;cases q
theorem zOr (he:GM X o f)(d:DmOk X.prog X.w X.K X.mg X.base k Y)(hr:Room k X.A)(hbase:attributeBase o m X.env (eval o X.env)=eval o X.env)(hline:(apos.endLine==pos.line)=true):GM X (.Call (.Attribute o m apos) [] [] pos) (mthM Y ix m f nilM):=by
 intro pins s B H Q I ⟨U,O,G,r,ms,q,cc⟩;obtain⟨x,ex,q⟩:=bind_some q;obtain⟨c,hc,q⟩:=bind_some q;obtain⟨n,en,q⟩:=bind_some q;obtain⟨ent,ee,q⟩:=bind_some q;by_cases hk:spec.lookup ent.1=some (.mth c m)
 .rw [if_pos hk] at q;obtain⟨ws,ew,q⟩:=bind_some q;cases ew;have D:=d ent.1 ent.2 (mem_of_getElem? ee);rw[hk] at D;obtain⟨C,fa,fd,ps,d1,d2,d3,d4,d5⟩:=D;refine zLM (C:=C) he d2 d3 d4 hr d5 .nil zIJ (zF5 hbase rfl hline) pins s B H Q I ?_;refine⟨U,O,G,x,ms,ex,λv H1 Z k1 c1 dv=>?_⟩;obtain⟨a,C',dx,gs,rfl,h1,h2,h3⟩:=zNa c1 hc dv;obtain rfl:=zFd d1 h2;refine⟨a,dx,gs,rfl,h1,h3,U++Z,x.2,[x.1],r,c1,.cons dv .nil,q,λv H3 Z3 k3 c3 d3=>cc v H3 (Z++Z3) (k1.trans k3) (by rw[<- qJ];exact c3) (by rw[<- qJ];exact d3)⟩
 .rw [if_neg hk] at q;cases q
theorem zP8 {pins:List (Addr×Obj)}{B:St}{H:Hp}{s:Shared}{Q:VK}{us fus:List Value}{kw:List (Str×Value)}{vs:List V}{C f:Addr}{fd:FuncData}{ps:List Str}{sp:Sp}(M:Mk X.K C f)(F:FnOk X.prog X.w X.K X.mg X.base CX0 k f fd ps sp)(hr:Room (k+1) X.A)
  (hb:∀ (s':Shared) (x:Addr),X.K.In s'.heap->(Value.ref x::fus).length=ps.length->BindsTo s' fd ⟨.ref x::us,kw⟩ (ps.zip (.ref x::fus))) (I:Inv X pins B H s) (r:Vals vs fus)
  (h:∀ x dx,H x=none->H dx=none->dx≠x->sp (.ref x::vs) (upd (upd H dx (.own x)) x (.ins C dx [])) (λv H2=>v=.non/\Q (.ref x) H2) E0) :
  wpAny (model X.prog X.w) X.A (call (.ref C) us kw) (EP X pins B Q) X.xe s:=by
 have hq:=h (s.heap.objs.size+1) s.heap.objs.size (I.hok.fresh (Nat.le_succ _)) (I.hok.fresh (le_refl _)) (ne_of_lt (Nat.lt_succ_self _));have I2:=Inv.made (C:=C) I;have r2:Vals (V.ref (s.heap.objs.size+1)::vs) _:=.cons rfl r;have hl:(Value.ref (s.heap.objs.size+1)::fus).length=ps.length:=by
  have e:=r2.length;rw[F.len _ _ _ _ hq] at e;exact e.symm
 refine wpAny_call (zLb (f:=f) I.kIn M.makes M.init (beq_iff_eq.mp M.fn) (codeAny_mono (F.run _ X.stack _ _ _ (Value.ref (s.heap.objs.size+1)::fus) _ _ E0 (hr.make C us kw)
  (I2.env0.make C us kw) (hb _ _ I2.kIn hl) r2 hq) λr s' hq'=>?_))
 cases r with
 | error e=>exact hq'.elim
 | ok fl =>
  cases fl with
  | ret u =>
   obtain⟨v,H',I3,rv,ev,q3⟩:=I2.after hq';subst ev;exact⟨rv,⟨V.ref (s.heap.objs.size+1),H',I3,rfl,q3⟩⟩
  | next=>exact False.elim hq'
  | brk=>exact False.elim hq'
  | cont=>exact False.elim hq'
noncomputable def zOI (d:Bool):List W:=if d=true then [.dat .non] else []
noncomputable def mkM (Y:Dm)(n:Nat)(c kw:Str)(d:Bool)(g:Mst->Option MA):Mst->Option MR:=λs=>(Y[n]?).bind λe=>if spec.lookup e.1=some (.mk c kw) then (g s).bind λws=>e.2 (ws.1++zOI d) ws.2 else none
theorem zSs {n:Nat}{c kw:Str}{b:Bool}{p pos:Pos}{e:Expr}{es:List Expr}{g:Mst->Option MA}(ha:GAM X (e::es) g)(d:DmOk X.prog X.w X.K X.mg X.base k Y)(hr:Room k X.A)(hg:Gl X c)(hdb:(c==("__debug__":Str))=false)
  (hst:starEach (e::es) X.env=(false,eval e X.env)::starEach es X.env) (hpl:(backTo pos (starEach es X.env)).any (·.1)=false):GM X (.Call (.Name c p) (e::es) [] pos) (mkM Y n c kw b g):=by
 intro pins s B H Q I ⟨U,O,G,r,ms,q,cc⟩;obtain⟨ent,ee,q⟩:=bind_some q;by_cases hk:spec.lookup ent.1=some (.mk c kw)
 .rw [if_pos hk] at q;obtain⟨ws,ew,q⟩:=bind_some q;have D:=d ent.1 ent.2 (mem_of_getElem? ee);rw[hk] at D;obtain⟨j,C,fa,fd,ps,jk,d1,d2,d3,d4,d5,d6⟩:=D;refine wpAny_Call_Name_kw (zD8 I hg d1 ?_ hdb);refine W.callWith_K (h₀:=X.base) I.ok.mod.kin d2.kp (thn (ha pos pins s B H (λvs H1=>∃ Z,Kp H H1/\zAG X.K H1 (U++Z) ws.2/\DenWL X.K H1 (U++Z) ws.1 vs) I ⟨U,O,G,ws,ms,ew,λvs H1 Z k1 c1 dv=>⟨Z,k1,c1,dv⟩⟩) λus s1 ⟨vs,H1,I1,rv,Z,k1,c1,dv⟩=>⟨I1.kIn,?_⟩) hst hpl;have rn:Vals (if b=true then [V.non] else []) (if b=true then [Value.none] else []):=by
   cases b with
   | true=>exact .cons rfl .nil
   | false=>exact .nil
  refine zP8 d2 d3 (hr.mono jk) (λs' x hK hl=>?_) I1 (rv.append rn) λx dx n1 n2 n3=>?_
  .cases b with
   | true=>exact d5 s' (.ref x::us) hK hl
   | false =>
    exact d4 s' (.ref x::us) hK hl
  .refine ⟨x,dx,H1,_,U++Z,ws.2,ws.1++zOI b,r,rfl,n1,n2,n3,rfl,c1,dv.append ?_,q,λH' Z' k2 c2 d2'=>⟨rfl,cc (.ref x) H' (Z++Z') (k1.trans k2) (by rw[<- qJ];exact c2) (by rw[<- qJ];exact d2')⟩⟩;cases b with
   | true=>exact .cons (by rw[DenW,Den]) .nil
   | false=>exact .nil
 .rw [if_neg hk] at q;cases q
end
section
variable {K:W.Frag}{H:Hp}{U:List CA}{G:Mem}{B:St}{O:List (Option W)}
theorem MS.chgG (ms:MS K H U G B O){n:Nat}{a:Addr}{k:CK}{o:HO}{ws:List W}(ha:U[n]?=some (a,k))(h2:fz1 o=none)(t:Kp H (upd H a o)->zBX K (upd H a o) U a ws k):MS K (upd H a o) U (G.set n ws) B O/\Kp H (upd H a o):=by
 have hn:n < G.length:=by rw[<- ms.cells.len];exact(zzg ha).1
 obtain⟨c,kp⟩:=ms.cells.chgG hn ha h2 t;have m:=ms.next (Z:=[]) kp (by rw[append_nil];exact c);rw[append_nil] at m;exact⟨m,kp⟩
theorem DenWL.erase:∀ {ws:List W} {vs:List V} (j:Nat),DenWL K H U ws vs->DenWL K H U (ws.eraseIdx j) (vs.eraseIdx j)
 | [],_,_,h=>by rw[DenWL] at h;subst h;exact .nil
 | _::_,_,0,h=>by rw[DenWL] at h;obtain⟨v,us,rfl,_,h3⟩:=h;exact h3
 | _::ws,_,j+1,h=>by
  rw[DenWL] at h;obtain⟨v,us,rfl,h2,h3⟩:=h;exact .cons h2 (DenWL.erase j h3)
theorem DenWL.take:∀ {ws:List W} {vs:List V} (j:Nat),DenWL K H U ws vs->DenWL K H U (ws.take j) (vs.take j)
 | [],_,_,h=>by rw[DenWL] at h;subst h;rw[List.take_nil,List.take_nil];exact .nil
 | _::_,_,0,h=>.nil
 | _::ws,_,j+1,h=>by
  rw[DenWL] at h;obtain⟨v,us,rfl,h2,h3⟩:=h;exact .cons h2 (DenWL.take j h3)
theorem DenWL.drop:∀ {ws:List W} {vs:List V} (j:Nat),DenWL K H U ws vs->DenWL K H U (ws.drop j) (vs.drop j)
 | [],_,_,h=>by rw[DenWL] at h;subst h;rw[List.drop_nil,List.drop_nil];exact .nil
 | _::_,_,0,h=>h
 | _::ws,_,j+1,h=>by
  rw[DenWL] at h;obtain⟨v,us,rfl,h2,h3⟩:=h;exact DenWL.drop j h3
theorem DenWL.rev:∀ {ws:List W} {vs:List V},DenWL K H U ws vs->DenWL K H U ws.reverse vs.reverse
 | [],_,h=>by rw[DenWL] at h;subst h;exact .nil
 | _::ws,_,h=>by
  rw[DenWL] at h;obtain⟨v,us,rfl,h2,h3⟩:=h;rw[reverse_cons,reverse_cons];exact(DenWL.rev h3).append (.cons h2 .nil)
noncomputable def zFR:List W->Option (List Int)
 | []=>some []
 | .dat (.int i)::ws=>(zFR ws).map λis=>i::is
 | _=>none
theorem zDz:∀ {ws:List W} {vs:List V} {is:List Int},zFR ws=some is->DenWL K H U ws vs->vs=is.map V.int
 | [],_,_,e,h=>by cases e;rw[DenWL] at h;exact h
 | w::ws,vs,is,e,h=>by
  unfold zFR at e;split at e
  .rename_i z;cases z
  .rename_i i ws' z;cases z;obtain⟨js,e1,rfl⟩:=x9.mp e;rw[DenWL] at h;obtain⟨v,us,rfl,h2,h3⟩:=h;rw[DenW,Den] at h2;rw[h2,zDz e1 h3]
   rfl
  .cases e
end
section
variable {X:Cx}
noncomputable def lmM (t f:Mst->Option MR)(op:List W->W->Option (List W)):Mst->Option OutM:=λs=>(t s).bind λx=>match x.1 with
 | .loc n=>(f ⟨s.O,x.2⟩).bind λr=>(r.2[n]?).bind λws=>(op ws r.1).bind λws'=>some (.nx ⟨s.O,r.2.set n ws'⟩)
 | _=>none
def LmOk (K:W.Frag)(r:V->List V->Hp->VK->Prop)(op:List W->W->Option (List W)):Prop :=
 ∀ (H:Hp) (U:List CA) (ws ws':List W) (w:W) (vs:List V) (y:V) (l:Addr),op ws w=some ws'->DenWL K H U ws vs->DenW K H U w y->H l=some (.lst vs)->∃ vs',DenWL K H U ws' vs'/\∀ Q:VK,Q .non (upd H l (.lst vs'))->r (.ref l) [y] H Q
theorem zRB {id:String}(slot:Slot "list" name id)(hty:typeOf (.builtin id)=pure (.type "method_descriptor"))(hm:MtR X id r)(ho:LmOk X.K r op)(hb:GM X b t)(h:GM X e f)
  (he:starEach [e] X.env=[(false,eval e X.env)]) (hbase:attributeBase b name X.env (eval b X.env)=eval b X.env) (hline:(apos.endLine==cpos.line)=true) :
  GSM X (.Expr (.Call (.Attribute b name apos) [e] [] cpos) pos) (lmM t f op):=λH0 α0=>(zDA (zGk PySem.F.plainAttrs_list slot hty hm hb (zAa h zA2 he) hbase (by rw[he];rfl) hline he rfl) rfl).imp λE B H zz117=>by
 obtain⟨Z,s,o,ms,k,e,p⟩:=zz117;obtain⟨x,ex,e⟩:=bind_some e;split at e
 .rename_i n en;obtain⟨r,er,e⟩:=bind_some e;obtain⟨ws,ew,e⟩:=bind_some e;obtain⟨ws',eo,e⟩:=bind_some e;cases e;refine⟨α0++Z,s.O,s.G,x,ms,ex,λv H1 Z1 k1 c1 d1=>?_⟩;rw[en,DenW] at d1;obtain⟨a,ha,rfl⟩:=d1;obtain⟨_,vs0,_,q2,_⟩:=c1.loc ha;refine⟨.inl ⟨rfl,_,SqL.of q2⟩,α0++Z++Z1,s.O,x.2,r,ms.next k1 c1,er,λy H2 Z2 k2 c2 d2=>?_⟩;have ha2:=zA7 (Z:=Z2) ha;obtain⟨vs,g2,g3⟩:=c2.loc' ha2 ew;obtain⟨vs',g4,g5⟩:=ho H2 _ ws ws' r.1 vs y a eo g3 d2 g2;refine g5 _ ?_;obtain⟨m3,kp⟩:=((ms.next k1 c1).next k2 c2).chg ha2 g2 g4;rw[show α0++Z++Z1++Z2=α0++(Z++Z1++Z2) by simp] at m3;exact p (Z++Z1++Z2) B _ m3 (k.trans (k1.trans (k2.trans kp)))
 .cases e
noncomputable def remW (ws:List W)(w:W):Option (List W):=match w with
 | .dat (.int k)=>(zFR ws).bind λis=>(posI k is).map λj=>ws.eraseIdx j
 | _=>none
theorem zQA {K:W.Frag}:LmOk K zI6 remW:=λH U ws ws' w vs y l e dv dw hl=>by
 unfold remW at e;split at e
 .rename_i k;obtain⟨is,e1,e⟩:=bind_some e;obtain⟨j,e2,rfl⟩:=x9.mp e;have z:=zDz e1 dv;subst z;subst dw;exact⟨_,dv.erase j,λQ q=>⟨l,is,k,j,rfl,rfl,hl,e2,q⟩⟩
 .cases e
noncomputable def lm0M (t:Mst->Option MR)(op:List W->List W):Mst->Option OutM:=λs=>(t s).bind λx=>match x.1 with
 | .loc n=>(x.2[n]?).bind λws=>some (.nx ⟨s.O,x.2.set n (op ws)⟩)
 | _=>none
theorem zOi (hb:GM X b t)(hbase:attributeBase b "reverse" X.env (eval b X.env)=eval b X.env)(hline:(apos.endLine==cpos.line)=true) :
  GSM X (.Expr (.Call (.Attribute b "reverse" apos) [] [] cpos) pos) (lm0M t List.reverse):=λH0 α0=>(zDA (zQO PySem.F.plainAttrs_list PySem.F.slot_list_reverse PySem.F.type_list_reverse zIR hb hbase hline) rfl).imp λE B H zz118=>by
 obtain⟨Z,s,o,ms,k,e,p⟩:=zz118;obtain⟨x,ex,e⟩:=bind_some e;split at e
 .rename_i n en;obtain⟨ws,ew,e⟩:=bind_some e;cases e;refine⟨α0++Z,s.O,s.G,x,ms,ex,λv H1 Z1 k1 c1 d1=>?_⟩;rw[en,DenW] at d1;obtain⟨a,ha,rfl⟩:=d1;obtain⟨vs,g2,g3⟩:=c1.loc' ha ew;refine⟨.inl ⟨rfl,_,SqL.of g2⟩,a,vs,rfl,rfl,g2,?_⟩;obtain⟨m3,kp⟩:=(ms.next k1 c1).chg ha g2 g3.rev;rw[qJ] at m3;exact p (Z++Z1) B _ m3 (k.trans (k1.trans kp))
 .cases e
noncomputable def insM (t kk f:Mst->Option MR):Mst->Option OutM:=λs=>(t s).bind λx=>match x.1 with
 | .loc n=>(kk ⟨s.O,x.2⟩).bind λj=>(f ⟨s.O,j.2⟩).bind λr=>match j.1 with
  | .dat (.int i)=>(r.2[n]?).bind λws=>if 0<=i/\i<=ws.length/\ws.length<=10000 then some (.nx ⟨s.O,r.2.set n (ws.take i.toNat++r.1::ws.drop i.toNat)⟩) else none
  | _=>none
 | _=>none
theorem zOk (hb:GM X b t)(hk:GM X ke kk)(h:GM X e f)(he:starEach [ke,e] X.env=(false,eval ke X.env)::starEach [e] X.env)(he2:starEach [e] X.env=[(false,eval e X.env)])
  (hbase:attributeBase b "insert" X.env (eval b X.env)=eval b X.env) (hline:(apos.endLine==cpos.line)=true) :
  GSM X (.Expr (.Call (.Attribute b "insert" apos) [ke,e] [] cpos) pos) (insM t kk f):=λH0 α0=>(zDA (zGk PySem.F.plainAttrs_list PySem.F.slot_list_insert PySem.F.type_list_insert zJY hb (zAa hk (zAa h zA2 he2) he) hbase (by rw[he,he2];rfl) hline he (by rw[he2];rfl)) rfl).imp λE B H zz119=>by
 obtain⟨Z,s,o,ms,k,e,p⟩:=zz119;obtain⟨x,ex,e⟩:=bind_some e;split at e
 .rename_i n en;obtain⟨j,ej,e⟩:=bind_some e;obtain⟨r,er,e⟩:=bind_some e;split at e
  .rename_i i ei;obtain⟨ws,ew,e⟩:=bind_some e;by_cases hl:0<=i/\i<=ws.length/\ws.length<=10000
   .rw [if_pos hl] at e;cases e;refine⟨α0++Z,s.O,s.G,x,ms,ex,λv H1 Z1 k1 c1 d1=>?_⟩;rw[en,DenW] at d1;obtain⟨a,ha,rfl⟩:=d1;obtain⟨_,vs0,_,q2,_⟩:=c1.loc ha;refine⟨.inl ⟨rfl,_,SqL.of q2⟩,α0++Z++Z1,s.O,x.2,j,ms.next k1 c1,ej,λy H2 Z2 k2 c2 d2=>?_⟩;refine⟨α0++Z++Z1++Z2,s.O,j.2,r,(ms.next k1 c1).next k2 c2,er,λw H3 Z3 k3 c3 d3=>?_⟩;rw[ei,DenW,Den] at d2;subst d2;have ha3:=zA7 (Z:=Z3) (zA7 (Z:=Z2) ha);obtain⟨vs,g2,g3⟩:=c3.loc' ha3 ew;refine⟨a,vs,i,w,rfl,rfl,g2,hl.1,by rw[<- g3.length];exact hl.2.1,by rw[<- g3.length];omega,?_⟩;obtain⟨m3,kp⟩:=(((ms.next k1 c1).next k2 c2).next k3 c3).chg ha3 g2 ((g3.take i.toNat).append (.cons d3 (g3.drop i.toNat)));rw[show α0++Z++Z1++Z2++Z3=α0++(Z++Z1++Z2++Z3) by simp] at m3;exact p (Z++Z1++Z2++Z3) B _ m3 (k.trans (k1.trans (k2.trans (k3.trans kp))))
   .rw [if_neg hl] at e;cases e
  .cases e
 .cases e
noncomputable def idxM (t f:Mst->Option MR):Mst->Option MR:=λs=>(t s).bind λx=>match x.1 with
 | .loc n=>(f ⟨s.O,x.2⟩).bind λr=>match r.1 with
  | .dat (.int k)=>(r.2[n]?).bind λws=>(zFR ws).bind λis=>(posI k is).map λ(j:Nat)=>(.dat (.int (j:Int)),r.2)
  | _=>none
 | _=>none
theorem zRO (hb:GM X b t)(h:GM X e f)(he:starEach [e] X.env=[(false,eval e X.env)])(hbase:attributeBase b "index" X.env (eval b X.env)=eval b X.env)(hline:(apos.endLine==cpos.line)=true) :
  GM X (.Call (.Attribute b "index" apos) [e] [] cpos) (idxM t f):=(zGk PySem.F.plainAttrs_list PySem.F.slot_list_index PySem.F.type_list_index zLZ hb (zAa h zA2 he) hbase (by rw[he];rfl) hline he rfl).imp λB H Q zz120=>by
 obtain⟨U,O,G,r,ms,e,c⟩:=zz120;obtain⟨x,ex,e⟩:=bind_some e;split at e
 .rename_i n en;obtain⟨r,er,e⟩:=bind_some e;split at e
  .rename_i k ek;obtain⟨ws,ew,e⟩:=bind_some e;obtain⟨is,ei,e⟩:=bind_some e;obtain⟨j,ej,e⟩:=x9.mp e;cases e;refine⟨U,O,G,x,ms,ex,λv H1 Z1 k1 c1 d1=>?_⟩;rw[en,DenW] at d1;obtain⟨a,ha,rfl⟩:=d1;obtain⟨_,vs0,_,q2,_⟩:=c1.loc ha;refine⟨.inl ⟨rfl,_,SqL.of q2⟩,U++Z1,O,x.2,r,ms.next k1 c1,er,λy H2 Z2 k2 c2 d2=>?_⟩;rw[ek,DenW,Den] at d2;subst d2;obtain⟨vs,g2,g3⟩:=c2.loc' (zA7 (Z:=Z2) ha) ew;have z:=zDz ei g3;subst z;exact⟨a,is,k,j,rfl,rfl,g2,ej,c _ H2 (Z1++Z2) (k1.trans k2) (by rw[<- qJ];exact c2) (by rw[DenW,Den])⟩
  .cases e
 .cases e
noncomputable def setA (f:Str)(w:W):List Str->List W->List W
 | n::ns,x::ws=>if n=f then w::ws else x::setA f w ns ws
 | _,ws=>ws
theorem zHV {K:W.Frag}{H:Hp}{U:List CA}{f:Str}{w:W}{v:V}(hw:DenW K H U w v):∀ {gs:List (Str×V)} {ws:List W},f∈gs.map (·.1)->DenWL K H U ws (gs.map (·.2))->(putF f v gs).map (·.1)=gs.map (·.1)/\DenWL K H U (setA f w (gs.map (·.1)) ws) ((putF f v gs).map (·.2))
 | [],_,h,_=>absurd h (by simp)
 | (g,u)::r,[],_,t=>by rw[map_cons,DenWL] at t;cases t
 | (g,u)::r,x::ws,h,t=>by
  rw[map_cons,DenWL] at t;obtain⟨v',us,e1,t1,t2⟩:=t;cases e1;rw[show setA f w (((g,u)::r).map (·.1)) (x::ws)=if g=f then w::ws else x::setA f w (r.map (·.1)) ws from rfl];unfold putF;by_cases q:g=f
  .rw [if_pos q,if_pos q];exact⟨by rw[map_cons,map_cons,q],.cons hw t2⟩
  .rw [if_neg q,if_neg q];have hm:f∈r.map (·.1):=by
    rw[map_cons,mem_cons] at h;rcases h with z | z
    .exact absurd z.symm q
    .exact z
   obtain⟨i1,i2⟩:=zHV hw hm t2;exact⟨by rw[map_cons,map_cons,i1],.cons t1 i2⟩
theorem zLH {f:Str}{v:V}{gs:List (Str×V)}(h:(putF f v gs).map (·.1)=gs.map (·.1)):mutF (putF f v gs)=mutF gs:=by unfold mutF;rw[h]
theorem zOZ {K:W.Frag}{H:Hp}{U:List CA}{G:Mem}{B:St}{O:List (Option W)}{n:Nat}{a C dx:Addr}{c f:Str}{ns:List Str}{gs:List (Str×V)}{ws:List W}{w:W}{v:V}(ms:MS K H U G B O)(ha:U[n]?=some (a,.ins c ns))(h1:H a=some (.ins C dx gs))(h2:mutF gs=true)(h3:zB0 K c C)(h4:gs.map (·.1)=ns)(h5:DenWL K H U ws (gs.map (·.2)))(hf:ns.contains f=true)(hw:DenW K H U w v) :
  MS K (upd H a (.ins C dx (putF f v gs))) U (G.set n (setA f w ns ws)) B O/\Kp H (upd H a (.ins C dx (putF f v gs))):=by
 subst h4;obtain⟨i1,i2⟩:=zHV hw (List.contains_iff_mem.mp hf) h5;have mu:=(zLH i1).trans h2;exact ms.chgG ha (if_pos mu) λkp=>⟨C,dx,_,zAX,mu,h3,i1,i2.keep kp⟩
noncomputable def addW:W->W->Option W
 | .dat (.int i),.dat (.int j)=>some (.dat (.int (i+j)))
 | _,_=>none
theorem zGV (h:addW u w=some z):∃ i j,u=.dat (.int i)/\w=.dat (.int j)/\z=.dat (.int (i+j)):=by
 unfold addW at h;split at h
 .simp_all
 .grind
noncomputable def zME (ob:List (Str×Str×Option Bool))(t:Mst->Option MR)(f:Str)(g:Mst->Option MR):Mst->Option OutM:=λs=>(t s).bind λx=>match x.1 with
 | .ob c ns n=>if (c,f,none)∈ob/\ns.contains f=true/\ns.length<=100 then (x.2[n]?).bind λws=>((ns.zip ws).lookup f).bind λu=>(g ⟨s.O,x.2⟩).bind λr=>(r.2[n]?).bind λws'=>(addW u r.1).bind λz=>some (.nx ⟨s.O,r.2.set n (setA f z ns ws')⟩)
  else none
 | _=>none
theorem zLz (hb:GM X o t)(h:GM X e g)(ho:∀ c,(c,fl,none)∈ob->∀ C,zB0 X.K c C->Cls X.K C/\zBT X.K C fl) :
  GSM X (.AugAssign (.Attribute o fl pos') .Add e pos) (zME ob t fl g):=λH0 α0=>(zI9 hb h zQ1).imp λE B H zz121=>by
 obtain⟨Z,s,o,ms,k,e,p⟩:=zz121;obtain⟨x,ex,e⟩:=bind_some e;split at e
 .rename_i c ns n en;by_cases q:(c,fl,none)∈ob/\ns.contains fl=true/\ns.length<=100
  .rw [if_pos q] at e;obtain⟨ws,ew,e⟩:=bind_some e;obtain⟨u,eu,e⟩:=bind_some e;obtain⟨r,er,e⟩:=bind_some e;obtain⟨ws',ew',e⟩:=bind_some e;obtain⟨z,ez,e⟩:=bind_some e;obtain⟨i,j,rfl,ej,rfl⟩:=zGV ez
   .cases e;refine⟨α0++Z,s.O,s.G,x,ms,ex,λv H1 Z1 k1 c1 d1=>?_⟩;rw[en,DenW] at d1;obtain⟨a,ha,rfl⟩:=d1;obtain⟨C,dx,gs,h1,h2,h3,h4,h5⟩:=c1.cell' ha ew;obtain⟨o1,o2⟩:=ho c q.1 C h3;subst h4;obtain⟨v0,g1,g2⟩:=zGo h5 eu;rw[DenW,Den] at g2;subst g2;refine⟨a,C,dx,gs,_,rfl,h1,o1,o2,g1,α0++Z++Z1,s.O,x.2,r,ms.next k1 c1,er,λy H2 Z2 k2 c2 d2=>?_⟩;rw[ej,DenW,Den] at d2;subst d2;have ha2:=zA7 (Z:=Z2) ha;obtain⟨C2,dx2,gs2,f1,f2,f3,f4,f5⟩:=c2.cell' ha2 ew';obtain rfl:=zFd h3 f3;refine⟨i,j,rfl,rfl,dx2,gs2,f1,?_,?_⟩
    .have:=congrArg List.length f4;rw[List.length_map] at this;omega
    .obtain ⟨m3,kp⟩:=zOZ (w:=.dat (.int (i+j))) (v:=.int (i+j)) ((ms.next k1 c1).next k2 c2) ha2 f1 f2 f3 f4 f5 q.2.1 (by rw[DenW,Den]);rw[show α0++Z++Z1++Z2=α0++(Z++Z1++Z2) by simp] at m3;exact p (Z++Z1++Z2) B _ m3 (k.trans (k1.trans (k2.trans kp)))
  .rw [if_neg q] at e;cases e
 .cases e
end
noncomputable def zAs (k:List Int):List W->Option W
 | []=>none
 | .tup [d,u]::ws=>if kI d=some k then some u else zAs k ws
 | _::_=>none
noncomputable def repW (k:List Int)(u e:W):W:=match e with
 | .tup [d,x]=>if kI d=some k then .tup [d,u] else .tup [d,x]
 | e=>e
noncomputable def zB1 (k:List Int)(d u:W)(ws:List W):List W:=if (zAs k ws).isSome=true then ws.map (repW k u) else ws++[.tup [d,u]]
noncomputable def hasK (k:List Int)(e:W):Bool:=match e with
 | .tup [d,_]=>decide (kI d=some k)
 | _=>false
noncomputable def zBy (k:List Int)(ws:List W):List W:=ws.filter λe=>!(hasK k e)
section
variable {c:Type}[DecidableEq c]{K:W.Frag}{H:Hp}{U:List CA}{enc:List Int->Option c}
theorem zGB (inj:∀ a b k,enc a=some k->enc b=some k->a=b):∀ {ws:List W} {kvs:List (c×V)} {ks:List Int} {k:c},zBk K H U enc ws kvs->enc ks=some k ->
  (∀ u,zAs ks ws=some u->∃ v,valV kvs k=some v/\DenW K H U u v)/\(zAs ks ws=none->valV kvs k=none)
 | [],_,_,_,h,_=>by
  rw[zBk] at h;subst h;exact⟨(λ_ z=>nomatch z),λ_=>rfl⟩
 | _::ws,_,ks,k,⟨d,ks',k',x,v,r,e1,e2,e3,e4,h5,h6⟩,hk=>by
  subst e1 e4;rw[show zAs ks (.tup [d,x]::ws)=if kI d=some ks then some x else zAs ks ws from rfl,e2];by_cases q:ks'=ks
  .subst q;rw[e3] at hk;cases hk;rw[if_pos rfl,zDo rfl];exact⟨(λu z=>by cases z;exact⟨v,rfl,h5⟩),(λz=>nomatch z)⟩
  .rw [if_neg (λz=>q (xj z)),zDp (λz=>q (inj _ _ k' e3 (by rw[show k'=k from z];exact hk)))];exact zGB inj h6 hk
theorem zJi (inj:∀ a b k,enc a=some k->enc b=some k->a=b)(hu:DenW K H U u v):∀ {ws:List W} {kvs:List (c×V)} {ks:List Int} {k:c},zBk K H U enc ws kvs->enc ks=some k ->
  zBk K H U enc (ws.map (repW ks u)) (kvs.map λkv=>if kv.1=k then (kv.1,v) else kv)
 | [],_,_,_,h,_=>by
  rw[zBk] at h;subst h
  rfl
 | _::ws,_,ks,k,⟨d,ks',k',x,w,r,e1,e2,e3,e4,h5,h6⟩,hk=>by
  subst e1 e4;rw[map_cons,map_cons,show repW ks u (.tup [d,x])=if kI d=some ks then .tup [d,u] else .tup [d,x] from rfl,e2];dsimp only;by_cases q:ks'=ks
  .subst q;rw[e3] at hk;cases hk;rw[if_pos rfl,if_pos rfl];exact⟨d,ks',k,u,v,_,rfl,e2,e3,rfl,hu,zJi inj hu h6 e3⟩
  .rw [if_neg (λz=>q (xj z)),if_neg (λz=>q (inj _ _ k' e3 (by rw[show k'=k from z];exact hk)))];exact⟨d,ks',k',x,w,_,rfl,e2,e3,rfl,h5,zJi inj hu h6 hk⟩
theorem zJh (hd:kI d=some ks)(hk:enc ks=some k)(hu:DenW K H U u v):∀ {ws:List W} {kvs:List (c×V)},zBk K H U enc ws kvs->zBk K H U enc (ws++[.tup [d,u]]) (kvs++[(k,v)])
 | [],_,h=>by
  rw[zBk] at h;subst h;exact⟨d,ks,k,u,v,[],rfl,hd,hk,rfl,hu,rfl⟩
 | _::ws,_,⟨d',ks',k',x,w,r,e1,e2,e3,e4,h5,h6⟩=>by
  subst e4;exact⟨d',ks',k',x,w,_,e1,e2,e3,rfl,h5,zJh hd hk hu h6⟩
theorem zNH (inj:∀ a b k,enc a=some k->enc b=some k->a=b)(h:zBk K H U enc ws kvs)(hd:kI d=some ks)(hk:enc ks=some k)(hu:DenW K H U u v) :
  zBk K H U enc (zB1 ks d u ws) (putK kvs k v):=by
 obtain⟨g1,g2⟩:=zGB inj h hk;unfold zB1 putK;rw[zE9];cases e:zAs ks ws with
 | none =>
  rw[g2 e];exact zJh hd hk hu h
 | some x =>
  obtain⟨y,g3,_⟩:=g1 x e;rw[g3];exact zJi inj hu h hk
theorem zJk (inj:∀ a b k,enc a=some k->enc b=some k->a=b):∀ {ws:List W} {kvs:List (c×V)} {ks:List Int} {k:c},zBk K H U enc ws kvs->enc ks=some k->zBk K H U enc (zBy ks ws) (zGG kvs k)
 | [],_,_,_,h,_=>by
  rw[zBk] at h;subst h
  rfl
 | _::ws,_,ks,k,⟨d,ks',k',x,v,r,e1,e2,e3,e4,h5,h6⟩,hk=>by
  subst e1 e4;have ih:=zJk inj h6 hk;have e5:hasK ks (.tup [d,x])=decide (ks'=ks):=by
   show decide (kI d=some ks)=_;rw[e2];by_cases q:ks'=ks
   .rw [q,decide_eq_true rfl,decide_eq_true rfl]
   .rw [decide_eq_false q,decide_eq_false λz=>q (xj z)]
  unfold zBy zGG;rw[filter_cons,filter_cons,e5];by_cases q:ks'=ks
  .have q2:k'=k:=by subst q;rw[e3] at hk;exact xj hk
   rw[decide_eq_true q];dsimp only;rw[q2,if_neg (by decide),if_neg (by simp)];exact ih
  .have q2:¬ k'=k:=λz=>q (inj _ _ k' e3 (by rw[z];exact hk))
   rw[decide_eq_false q,if_pos (by decide)];dsimp only;rw[if_pos (decide_eq_true q2)];exact⟨d,ks',k',x,v,_,rfl,e2,e3,rfl,h5,ih⟩
theorem zJj:∀ {ws:List W} {kvs:List (c×V)},zBk K H U enc ws kvs->ws.length=kvs.length
 | [],_,h=>by rw[zBk] at h;subst h;rfl
 | _::ws,_,⟨d,ks',k',x,v,r,e1,e2,e3,e4,h5,h6⟩=>by rw[e4,xY,xY,zJj h6]
end
theorem injK:∀ a b k,encK a=some k->encK b=some k->a=b:=λa b k h1 h2=>by
 unfold encK at h1 h2;split at h1<;>split at h2<;>first | cases h1;cases h2;rfl | cases h1;done | cases h2
theorem injT:∀ a b k,encT a=some k->encT b=some k->a=b:=λa b k h1 h2=>by
 unfold encT at h1 h2;split at h1<;>split at h2<;>first | cases h1;cases h2;rfl | cases h1;done | cases h2
section
variable {K:W.Frag}{H:Hp}{U:List CA}
theorem zHk (h:kI w=some ks):(∃ i,w=.dat (.int i)/\ks=[i])\/∃ i j,w=.tup [.dat (.int i),.dat (.int j)]/\ks=[i,j]:=by
 unfold kI at h;split at h
 .simp_all
 .cases h;exact .inr ⟨_,_,rfl,rfl⟩
 .cases h
theorem zOS (h:kI w=some ks)(hl:ks.length=1)(d:DenW K H U w v):∃ k,encK ks=some k/\v=kV k:=by
 rcases zHk h with ⟨i,rfl,rfl⟩ | ⟨i,j,rfl,rfl⟩
 .rw [DenW] at d;exact⟨Sum.inl i,rfl,d⟩
 .cases hl
theorem zQu (h:kI w=some ks)(hl:ks.length=2)(d:DenW K H U w v):∃ k b,encT ks=some k/\v=.ref b/\H b=some (.tup (k.map kV)):=by
 rcases zHk h with ⟨i,rfl,rfl⟩ | ⟨i,j,rfl,rfl⟩
 .cases hl
 .rw [DenW] at d;obtain⟨a,vs,rfl,h1,h2⟩:=d;obtain⟨v1,us,rfl,g1,g2⟩:=h2;obtain⟨v2,us2,rfl,g3,g4⟩:=g2;subst g4;subst g1 g3;exact⟨[Sum.inl i,Sum.inl j],a,rfl,rfl,zBh _ _ h1⟩
noncomputable def lenK (t:Bool):Nat:=if t=true then 2 else 1
theorem zKl (c:zBX K H U a ws (.dic t))(hk:kI j=some ks)(hl:ks.length=lenK t)(dj:DenW K H U j y):∃ o,DGet H a y o/\(∀ u,zAs ks ws=some u->∃ v,o=some v/\DenW K H U u v)/\(zAs ks ws=none->o=none):=by
 cases t with
 | false =>
  obtain⟨kvs,h1,h2⟩:=c;obtain⟨k,g1,rfl⟩:=zOS hk hl dj;exact⟨_,.k h1,zGB injK h2 g1⟩
 | true =>
  obtain⟨kvs,h1,h2⟩:=c;obtain⟨k,b,g1,rfl,g2⟩:=zQu hk hl dj;exact⟨_,.inr ⟨kvs,k,b,.inl h1,rfl,g2,rfl⟩,zGB injT h2 g1⟩
theorem zPX (c:zBX K H U a ws (.dic t))(hk:kI j=some ks)(hl:ks.length=lenK t)(dj:DenW K H U j y)(du:DenW K H U u v)(hw:ws.length<=10000) :
  ∃ o,DPut H a y v (upd H a o)/\fz1 o=none/\(Kp H (upd H a o)->zBX K (upd H a o) U a (zB1 ks j u ws) (.dic t)):=by
 cases t with
 | false =>
  obtain⟨kvs,h1,h2⟩:=c;obtain⟨k,g1,rfl⟩:=zOS hk hl dj;exact⟨_,.k h1 (by rw[<- zJj h2];exact Nat.lt_of_le_of_lt hw (by decide)),rfl,λkp=>⟨_,zAX,by have:=(zNH injK h2 hk g1 du).mono kp [];rwa [append_nil] at this⟩⟩
 | true =>
  obtain⟨kvs,h1,h2⟩:=c;obtain⟨k,b,g1,rfl,g2⟩:=zQu hk hl dj;exact⟨_,.t h1 g2 (by rw[<- zJj h2];exact Nat.lt_of_le_of_lt hw (by decide)),rfl,λkp=>⟨_,zAX,by have:=(zNH injT h2 hk g1 du).mono kp [];rwa [append_nil] at this⟩⟩
end
section
variable {X:Cx}
noncomputable def zR3 (t:Bool):Mst->Option MR:=λs=>some (.di t s.G.length,s.G++[[]])
theorem zNX {K:W.Frag}(c:zAG K H U G):DenW K H' (U++[(a,.dic t)]) (.di t G.length) (.ref a):=by
 rw[DenW];exact⟨a,by rw[getElem?_append_right (by rw[c.len];omega),c.len,sub_self];rfl,rfl⟩
theorem zOu :GM X (.Dict [] [] pos) (zR3 t):=by
 cases t with
 | false =>
  refine zLP.imp λB H Q zz122 p n=>?_
  obtain⟨U,O,G,r,ms,q,c⟩:=zz122;cases q;have s2:Same H (upd H p (.dK [])):=zAf n _;exact c _ _ [(p,.dic false)] (zBB s2) (ms.cells.newG s2 n ⟨[],zAX,rfl⟩) (zNX ms.cells)
 | true =>
  refine zLO.imp λB H Q zz123 p n=>?_
  obtain⟨U,O,G,r,ms,q,c⟩:=zz123;cases q;have s2:Same H (upd H p (.dT [])):=zAf n _;exact c _ _ [(p,.dic true)] (zBB s2) (ms.cells.newG s2 n ⟨[],zAX,rfl⟩) (zNX ms.cells)
noncomputable def dixM (t k:Mst->Option MR):Mst->Option MR:=λs=>(t s).bind λx=>(k ⟨s.O,x.2⟩).bind λj=>match x.1 with
 | .di b n=>(kI j.1).bind λks=>if ks.length=lenK b then (j.2[n]?).bind λws=>(zAs ks ws).map λu=>(u,j.2) else none
 | _=>none
theorem zRQ (hu:X.A.units+1 < cLine)(ho:GM X o t)(hi:GM X i k)(hs:NoSl i):GM X (.Subscript o i pos) (dixM t k):=(zN1 hu ho hi hs).imp λB H Q zz124=>by
 obtain⟨U,O,G,r,ms,q,c⟩:=zz124;obtain⟨x,ex,q⟩:=bind_some q;obtain⟨j,ej,q⟩:=bind_some q;split at q
 .rename_i b n en;obtain⟨ks,ek,q⟩:=bind_some q;by_cases hl:ks.length=lenK b
  .rw [if_pos hl] at q;obtain⟨ws,ew,q⟩:=bind_some q;obtain⟨u,eu,q⟩:=x9.mp q;cases q;refine⟨U,O,G,x,ms,ex,λv H1 Z1 k1 c1 d1=>⟨U++Z1,O,x.2,j,ms.next k1 c1,ej,λy H2 Z2 k2 c2 d2=>?_⟩⟩;rw[en,DenW] at d1;obtain⟨a,ha,rfl⟩:=d1;obtain⟨o,g1,g2,_⟩:=zKl (c2.cell' (zA7 (Z:=Z2) ha) ew) ek hl d2;obtain⟨w,rfl,g3⟩:=g2 u eu;exact⟨a,w,rfl,g1,c w H2 (Z1++Z2) (k1.trans k2) (by simp_all) (by rw[<- qJ];exact g3)⟩
  .rw [if_neg hl] at q;cases q
 .cases q
noncomputable def nidW (x y:W)(G:Mem):Option MR:=match y with
 | .di b n=>(kI x).bind λks=>if ks.length=lenK b then (G[n]?).bind λws=>some (.dat (.bl (!(zAs ks ws).isSome)),G) else none
 | _=>none
def rNid:R2:=λx y H Q=>∃ a o,y=.ref a/\DGet H a x o/\Q (.bl (!o.isSome)) H
theorem zQW (hu:X.A.units+1 < cLine):OpR X (compareOp .NotIn) rNid:=by
 intro pins s B H x y v u Q I rx ry h;obtain⟨a,o,rfl,g,q⟩:=h;cases ry;exact zPY hu I g rx λs' I'=>⟨.bl _,H,I',rfl,q⟩
theorem zN3 {K:W.Frag}:OpW K rNid nidW:=λH U G x y z vx vy Q c e dx dy n=>by
 unfold nidW at e;split at e
 .rename_i b m;obtain⟨ks,ek,e⟩:=bind_some e;by_cases hl:ks.length=lenK b
  .rw [if_pos hl] at e;obtain⟨ws,ew,e⟩:=bind_some e;cases e;obtain⟨a,ha,rfl⟩:=dy;obtain⟨o,g1,g2,g3⟩:=zKl (c.cell' ha ew) ek hl dx;have es:o.isSome=(zAs ks ws).isSome:=by
    cases q:zAs ks ws with
    | none=>rw[g3 q];rfl
    | some u=>obtain⟨w,rfl,_⟩:=g2 u q;rfl
   refine⟨a,o,rfl,g1,?_⟩;rw[es];exact n _ H [] (Kp.refl H) (by simp_all) (by rw[DenW,Den])
  .simp_all
 .cases e
theorem zOe (hu:X.A.units+1 < cLine)(hm:behindInMarks .NotIn b=false)(ha:GM X a f)(hb:GM X b g):GTM X (.Compare a [.NotIn] [b] pos) (asBM (twoM f g nidW)) :=
 (zGi (zQW hu) ha hb hm).imp λ_ _ _ q=>zFO zN3 (zG2 q)
noncomputable def zMX (t k f:Mst->Option MR):Mst->Option OutM:=λs=>(f s).bind λr=>(t ⟨s.O,r.2⟩).bind λx=>(k ⟨s.O,x.2⟩).bind λj=>match x.1 with
 | .di b n=>(kI j.1).bind λks=>(j.2[n]?).bind λws=>if ks.length=lenK b/\ws.length<=10000 then some (.nx ⟨s.O,j.2.set n (zB1 ks j.1 r.1 ws)⟩) else none
 | _=>none
theorem zL1 (hu:X.A.units+1 < cLine)(hb:GM X b t)(hk:GM X ke k)(h:GM X e f)(hs:swapsWith e (some (.Subscript b ke spos)) pos.line X.env=pure false):GSM X (.Assign [.Subscript b ke spos] e pos) (zMX t k f):=λH0 α0 =>
 (zNu hu hb hk h hs).imp λE B H zz125=>by
 obtain⟨Z,s,o,ms,kp,e,p⟩:=zz125;obtain⟨r,er,e⟩:=bind_some e;obtain⟨x,ex,e⟩:=bind_some e;obtain⟨j,ej,e⟩:=bind_some e;split at e
 .rename_i b n en;obtain⟨ks,ek,e⟩:=bind_some e;obtain⟨ws,ew,e⟩:=bind_some e;by_cases hl:ks.length=lenK b/\ws.length<=10000
  .rw [if_pos hl] at e;cases e;refine⟨α0++Z,s.O,s.G,r,ms,er,λy H1 Z1 k1 c1 d1=>?_⟩;refine⟨α0++Z++Z1,s.O,r.2,x,ms.next k1 c1,ex,λv H2 Z2 k2 c2 d2=>?_⟩;refine⟨α0++Z++Z1++Z2,s.O,x.2,j,(ms.next k1 c1).next k2 c2,ej,λw H3 Z3 k3 c3 d3=>?_⟩;rw[en,DenW] at d2;obtain⟨a,ga,rfl⟩:=d2;have ga3:=zA7 (Z:=Z3) ga;obtain⟨o,g1,g2,g3⟩:=zPX (c3.cell' ga3 ew) ek hl.1 d3 ((d1.mono k2 Z2).mono k3 Z3) hl.2;refine⟨a,_,rfl,g1,?_⟩;obtain⟨m4,kp4⟩:=(((ms.next k1 c1).next k2 c2).next k3 c3).chgG ga3 g2 g3;rw[show α0++Z++Z1++Z2++Z3=α0++(Z++Z1++Z2++Z3) by simp] at m4;exact p (Z++Z1++Z2++Z3) B _ m4 (kp.trans (k1.trans (k2.trans (k3.trans kp4))))
  .rw [if_neg hl] at e;cases e
 .cases e
noncomputable def zMY (t f:Mst->Option MR):Mst->Option MR:=λs=>(t s).bind λx=>match x.1 with
 | .di false n=>(f ⟨s.O,x.2⟩).bind λj=>(kI j.1).bind λks=>(j.2[n]?).bind λws=>(zAs ks ws).bind λu=>if ks.length=1 then some (u,j.2.set n (zBy ks ws)) else none
 | _=>none
theorem zOt (hb:GM X b t)(h:GM X e f)(he:starEach [e] X.env=[(false,eval e X.env)])(hbase:attributeBase b "pop" X.env (eval b X.env)=eval b X.env)(hline:(apos.endLine==cpos.line)=true) :
  GM X (.Call (.Attribute b "pop" apos) [e] [] cpos) (zMY t f):=(zGk PySem.F.plainAttrs_dict PySem.F.slot_dict_pop PySem.F.type_dict_pop zOL hb (zAa h zA2 he) hbase (by rw[he];rfl) hline he rfl).imp λB H Q zz126=>by
 obtain⟨U,O,G,r,ms,e,c⟩:=zz126;obtain⟨x,ex,e⟩:=bind_some e;split at e
 .rename_i n en;obtain⟨j,ej,e⟩:=bind_some e;obtain⟨ks,ek,e⟩:=bind_some e;obtain⟨ws,ew,e⟩:=bind_some e;obtain⟨u,eu,e⟩:=bind_some e;by_cases hl:ks.length=1
  .rw [if_pos hl] at e;cases e;refine⟨U,O,G,x,ms,ex,λv H1 Z1 k1 c1 d1=>?_⟩;rw[en,DenW] at d1;obtain⟨a,ha,rfl⟩:=d1;obtain⟨ws0,_,kvs0,h0,_⟩:=c1.cell ha;refine⟨.inr (.inr (.inl ⟨rfl,.inl ⟨_,h0⟩⟩)),U++Z1,O,x.2,j,ms.next k1 c1,ej,λy H2 Z2 k2 c2 d2=>?_⟩;have ha2:=zA7 (Z:=Z2) ha;obtain⟨kvs,h1,h2⟩:=c2.cell' ha2 ew;obtain⟨k,g1,rfl⟩:=zOS ek hl d2;obtain⟨v,g2,g3⟩:=(zGB injK h2 g1).1 u eu;refine⟨a,kvs,k,v,rfl,rfl,h1,g2,?_⟩;obtain⟨m3,kp⟩:=((ms.next k1 c1).next k2 c2).chgG (ws:=zBy ks ws) (o:=.dK (zGG kvs k)) ha2 rfl λkp=>⟨_,zAX,by have:=(zJk injK h2 g1).mono kp [];rwa [append_nil] at this⟩
   exact c v _ (Z1++Z2) (k1.trans (k2.trans kp)) (by rw[<- qJ];exact m3.cells) (by rw[<- qJ];exact g3.keep kp)
  .rw [if_neg hl] at e;cases e
 .cases e
noncomputable def lcpM (f:Mst->Option MR):Mst->Option MR:=λs=>(f s).bind λx=>match x.1 with
 | .loc n=>(x.2[n]?).bind λws=>some (.loc x.2.length,x.2++[ws])
 | _=>none
theorem zRN (hg:Gl X "list")(hm:X.mg "list"=none)(h:GM X e f)(he:starEach [e] X.env=[(false,eval e X.env)]):GM X (.Call (.Name "list" p) [e] [] pos) (lcpM f):=(zFy zDe hg hm boot_list (zAa h zA2 he) (by decide) (by decide) he rfl).imp λB H Q zz127=>by
 obtain⟨U,O,G,r,ms,e,c⟩:=zz127;obtain⟨x,ex,e⟩:=bind_some e;split at e
 .rename_i n en;obtain⟨ws,ew,e⟩:=bind_some e;cases e;refine⟨U,O,G,x,ms,ex,λv H1 Z1 k1 c1 d1=>?_⟩;rw[en,DenW] at d1;obtain⟨a,ha,rfl⟩:=d1;obtain⟨vs,g2,g3⟩:=c1.loc' ha ew;refine⟨a,vs,rfl,.inl (SqL.of g2),λl nl=>?_⟩;have s2:Same H1 (upd H1 l (.lst vs)):=zAf nl _;exact c _ _ (Z1++[(l,.lst)]) (k1.trans (zBB s2)) (by rw[<- qJ];exact c1.new s2 nl zAX (g3.mono (zBB s2) _)) (by rw[<- qJ];exact zGs c1)
 .cases e
noncomputable def lenM (f:Mst->Option MR):Mst->Option MR:=λs=>(f s).bind λx=>match x.1 with
 | .loc n=>(x.2[n]?).bind λws=>some (.dat (.int ws.length),x.2)
 | _=>none
theorem zRM (hg:Gl X "len")(hm:X.mg "len"=none)(h:GM X e f)(he:starEach [e] X.env=[(false,eval e X.env)]):GM X (.Call (.Name "len" p) [e] [] pos) (lenM f):=(zDr zDf hg hm boot_len (zAa h zA2 he) (by decide) (by decide) he rfl).imp λB H Q zz128=>by
 obtain⟨U,O,G,r,ms,e,c⟩:=zz128;obtain⟨x,ex,e⟩:=bind_some e;split at e
 .rename_i n en;obtain⟨ws,ew,e⟩:=bind_some e;cases e;refine⟨U,O,G,x,ms,ex,λv H1 Z1 k1 c1 d1=>?_⟩;rw[en,DenW] at d1;obtain⟨a,ha,rfl⟩:=d1;obtain⟨vs,g2,g3⟩:=c1.loc' ha ew;exact⟨a,vs,rfl,.inl (SqL.of g2),c _ H1 Z1 k1 c1 (by rw[DenW,Den,g3.length])⟩
 .cases e
theorem zL7:PGet X (rIxL X.K):=by
 intro pins s B H x y v u Q I rx ry h;obtain⟨p,xs,i,z,rfl,rfl,hq,he,q⟩:=h;cases rx;obtain⟨t,rfl⟩:=ry;obtain⟨its,r,pl,hz⟩:=I.list hq;obtain⟨j,h1,h2,h3,h4,h5⟩:=zHL he;obtain⟨w,ew,rw'⟩:=r.get h2;have hl:=r.length;have hn:=zF9;have fin:EP X pins B Q w s:=⟨z,H,I,rw',q⟩;by_cases h0:0<=i
 .have hj:i.toNat=j:=by
   rw[seqIndex_of h0 h5] at h1;exact xj h1
  exact wpAny_getItem_list pl.isList h0 (by omega) (by rw[hj];simpa using ew) fin
 .have hj:(i+(its.toArray.size:Int)).toNat=j:=by
   rw[seqIndex_neg (by omega) h4] at h1
   simp_all
  exact wpAny_getItem_list_neg pl.isList (by omega) (by simp_all) (by omega) (by rw[hj];simpa using ew) fin
noncomputable def zLn (t k f:Mst->Option MR):Mst->Option OutM:=λs=>(t s).bind λx=>(k ⟨s.O,x.2⟩).bind λj=>match x.1,j.1 with
 | .loc n,.dat (.int i)=>(j.2[n]?).bind λws=>(atI ws i).bind λu=>(f ⟨s.O,j.2⟩).bind λr=>(addW u r.1).bind λz=>(r.2[n]?).bind λws'=>(ixN ws'.length i).bind λm=>some (.nx ⟨s.O,r.2.set n (ws'.set m z)⟩)
 | _,_=>none
theorem zLy (hb:GM X b t)(hk:GM X ke k)(h:GM X e f)(ha:∀ ov iv new,augStore ke ov iv new=(do holding [new,ov,iv] (setItem ov iv new);release [new,ov,iv] [];pure .next)):GSM X (.AugAssign (.Subscript b ke spos) .Add e pos) (zLn t k f):=λH0 α0 =>
 (zNv hb hk zL7 h zQ0 zLB ha).imp λE B H zz129=>by
 obtain⟨Z,s,o,ms,kp,e,p⟩:=zz129;obtain⟨x,ex,e⟩:=bind_some e;obtain⟨j,ej,e⟩:=bind_some e;split at e
 .rename_i n i en ei;obtain⟨ws,ew,e⟩:=bind_some e;obtain⟨u,eu,e⟩:=bind_some e;obtain⟨r,er,e⟩:=bind_some e;obtain⟨z,ez,e⟩:=bind_some e;obtain⟨ws',ew',e⟩:=bind_some e;obtain⟨m,em,e⟩:=bind_some e;cases e;obtain⟨i1,i2,rfl,er1,rfl⟩:=zGV ez;refine⟨α0++Z,s.O,s.G,x,ms,ex,λv H1 Z1 k1 c1 d1=>?_⟩;rw[en,DenW] at d1;obtain⟨a,ga,rfl⟩:=d1;refine⟨α0++Z++Z1,s.O,x.2,j,ms.next k1 c1,ej,λw H2 Z2 k2 c2 d2=>?_⟩;rw[ei,DenW,Den] at d2;subst d2;obtain⟨vs,q2,q3⟩:=c2.loc' (zA7 (Z:=Z2) ga) ew;obtain⟨v0,g1,g2⟩:=q3.atI eu;rw[DenW,Den] at g2;subst g2;refine⟨a,vs,i,_,rfl,rfl,SqL.of q2,g1,α0++Z++Z1++Z2,s.O,j.2,r,(ms.next k1 c1).next k2 c2,er,λy H3 Z3 k3 c3 d3=>?_⟩;rw[er1,DenW,Den] at d3;subst d3;have ga3:=zA7 (Z:=Z3) (zA7 (Z:=Z2) ga);obtain⟨vs',f2,f3⟩:=c3.loc' ga3 ew';refine⟨i1,i2,rfl,rfl,a,vs',i,m,rfl,rfl,f2,by rw[<- f3.length];exact em,?_⟩;obtain⟨m4,kp4⟩:=(((ms.next k1 c1).next k2 c2).next k3 c3).chg ga3 f2 (f3.set (w:=.dat (.int (i1+i2))) (v:=.int (i1+i2)) (by rw[DenW,Den]) m);rw[show α0++Z++Z1++Z2++Z3=α0++(Z++Z1++Z2++Z3) by simp] at m4;exact p (Z++Z1++Z2++Z3) B _ m4 (kp.trans (k1.trans (k2.trans (k3.trans kp4))))
 .cases e
end
end DL
end
section
namespace DL
open PySem Spec PyProof.Rows L2
set_option genSizeOf false in
set_option genInjectivity false in
inductive ME where
 | pur (e:E) | var (i:Nat) | call (n:Nat) (f:Str) (es:ME) | lst (es:ME) | tup (es:ME) | ix (a b:ME) | cmp (op:CmpOp) (a b:ME) 
 | comp (n:Nat) (ms:List Nat) (x:Str) (src el:ME) | rng (a:ME) | rng2 (a b:E) | it (a:ME) | not (a:ME) | orl (es:ME) | nil | cons (e es:ME) | fld (a:ME) (f:Str) | mth (ix:List (Str×Nat)) (m:Str) (a es:ME) | mk (n:Nat) (c kw:Str) (d:Bool) (es:ME) | dnew (t:Bool) | dix (a b:ME) | dpop (a b:ME) | idx (a b:ME) | lcp (a:ME) | len (a:ME) | nid (a b:ME)
set_option genSizeOf false in
set_option genInjectivity false in
inductive MT where
 | nil | cons (a b:MT) | set (i:Nat) (e:ME) | setC (i:Nat) (e:ME) | app (t e:ME) | ife (c:ME) (a b:MT) | for1 (i:Nat) (src:ME) (b:MT) 
 | ret (e:ME) | retN | drop (e:ME) | never | rem (t e:ME) | rev (t:ME) | ins (t k e:ME) | faug (a:ME) (f:Str) (e:ME) | iaug (t k e:ME) | dput (t k e:ME)
noncomputable def fnM (Y:Dm)(n:Nat)(x:Str)(g:Mst->Option MA):Mst->Option MR:=λs=>match Y[n]? with
 | some (y,F)=>if y=x then zKv F g s else none
 | none=>none
mutual
def evM (J:Gm)(Y:Dm):ME->Mst->Option MR
 | .pur e=>zLg (evE J e)
 | .var i=>varM i
 | .call n f es=>fnM Y n f (evMs J Y es)
 | .lst es=>lstM (evMs J Y es)
 | .tup es=>tupM (evMs J Y es)
 | .ix a b=>twoM (evM J Y a) (evM J Y b) ixW
 | .cmp op a b=>twoM (evM J Y a) (evM J Y b) (opM (cmpD op))
 | .fld a f=>fldM J.ob f (evM J Y a)
 | .mth ix m a es=>mthM Y ix m (evM J Y a) (evMs J Y es)
 | .mk n c kw d es=>mkM Y n c kw d (evMs J Y es)
 | .dnew t=>zR3 t
 | .dix a b=>dixM (evM J Y a) (evM J Y b)
 | .dpop a b=>zMY (evM J Y a) (evM J Y b)
 | .idx a b=>idxM (evM J Y a) (evM J Y b)
 | .lcp a=>lcpM (evM J Y a)
 | .len a=>lenM (evM J Y a)
 | .comp n ms _ src el=>zHD ms 1 (evSrc J Y src) (tgM n) (evM J Y el)
 | _=>λ_=>none
def evMs (J:Gm)(Y:Dm):ME->Mst->Option MA
 | .nil=>nilM
 | .cons e es=>zMc (evM J Y e) (evMs J Y es)
 | _=>λ_=>none
def evSrc (J:Gm)(Y:Dm):ME->Mst->Option (Src×Mem)
 | .rng a=>zLC (evM J Y a)
 | .rng2 a b=>zST (evE J a) (evE J b)
 | .it a=>srcM (evM J Y a)
 | _=>λ_=>none
end
mutual
def evT (J:Gm)(Y:Dm):ME->Mst->Option MB
 | .pur e=>zLh (asB (evE J e))
 | .cmp op a b=>asBM (evM J Y (.cmp op a b))
 | .call n f es=>asBM (evM J Y (.call n f es))
 | .nid a b=>asBM (twoM (evM J Y a) (evM J Y b) nidW)
 | .not a=>notB (evT J Y a)
 | .orl es=>evOrT J Y es
 | _=>λ_=>none
def zGF (J:Gm)(Y:Dm):ME->Mst->Option MB
 | .cons e es=>(match es with
  | .nil=>evT J Y e
  | es=>andB (evT J Y e) (zGF J Y es))
 | _=>λ_=>none
def evOrT (J:Gm)(Y:Dm):ME->Mst->Option MB
 | .cons e es=>(match es with
  | .nil=>evT J Y e
  | es=>orB (evT J Y e) (evOrT J Y es))
 | _=>λ_=>none
end
mutual
def evS' (J:Gm)(Y:Dm):MT->Mst->Option OutM
 | .set i e=>setM i (evM J Y e)
 | .setC i e=>setM i (evM J Y e)
 | .app t e=>appM (evM J Y t) (evM J Y e)
 | .ife c a b=>ifM (evT J Y c) (evSs' J Y a) (evSs' J Y b)
 | .for1 i src b=>λs=>(evSrc J Y src s).bind λr=>zFa (tgM i) (evSs' J Y b) r.1 0 ⟨s.O,r.2⟩
 | .ret e=>retM (evM J Y e)
 | .retN=>λs=>some (.rt (.dat .non,s.G))
 | .drop e=>zMU (evM J Y e)
 | .rem t e=>lmM (evM J Y t) (evM J Y e) remW
 | .rev t=>lm0M (evM J Y t) List.reverse
 | .ins t k e=>insM (evM J Y t) (evM J Y k) (evM J Y e)
 | .faug a f e=>zME J.ob (evM J Y a) f (evM J Y e)
 | .iaug t k e=>zLn (evM J Y t) (evM J Y k) (evM J Y e)
 | .dput t k e=>zMX (evM J Y t) (evM J Y k) (evM J Y e)
 | .nil=>λ_=>none
 | .cons _ _=>λ_=>none
 | .never=>λ_=>none
def evSs' (J:Gm)(Y:Dm):MT->Mst->Option OutM
 | .nil=>λs=>some (.nx s)
 | .cons a b=>seqM (evS' J Y a) (evSs' J Y b)
 | _=>λ_=>none
end
noncomputable def zFi:Expr->Bool
 | .Name _ _=>true
 | .Subscript _ _ _=>true
 | .Attribute _ _ _=>true
 | _=>false
mutual
noncomputable def cM:ME->Scope->List Str->List Str->Expr->Bool
 | .pur e,sc,N,bs=>λx=>cE e sc N bs x
 | .var i,sc,N,bs=>λx=>cE (.var i) sc N bs x
 | .call _ f es,sc,N,bs=>λe=>zAv e λz1 z2 z3 _=>zAg z1 λy _=>zJP z2 λx xs=>on0 z3<|(decide (f=y)&&glB sc f&&okN f&&(spec.lookup f).isNone&&cMs es sc N bs (x::xs))
 | .lst es,sc,N,bs=>λe=>zJL e λl _=>cMs es sc N bs l
 | .tup es,sc,N,bs=>λe=>zGn e λl _ _=>cMs es sc N bs l
 | .ix a b,sc,N,bs=>λe=>zBL e λl r _=>zDD r&&cM a sc N bs l&&cM b sc N bs r
 | .cmp op a b,sc,N,bs=>λe=>zCi e λl z1 z2 _=>on1 z1 λop'=>on1 z2 λr=>cmB op op'&&cM a sc N bs l&&cM b sc N bs r
 | .fld a f,sc,N,bs=>λe=>zAd e λl m _=>decide (m=f)&&zFi l&&cM a sc N bs l
 | .mth _ m a es,sc,N,bs=>λe=>zAv e λz1 z2 z3 cpos=>zAd z1 λl m' apos=>on0 z3<|(decide (m'=m)&&zFi l&&(apos.endLine==cpos.line)&&decide (z2.length < 30)&&cM a sc N bs l&&cMs es sc N bs z2)
 | .mk _ c _ _ es,sc,N,bs=>λe=>zAv e λz1 z2 z3 _=>zAg z1 λy _=>zJP z2 λx xs=>on0 z3<|(decide (c=y)&&glB sc c&&okN c&&cMs es sc N bs (x::xs))
 | .dnew _,sc,N,bs=>λe=>zM8 e λz1 z2 _=>on0 z1<|on0 z2<|true
 | .dix a b,sc,N,bs=>λe=>zBL e λl r _=>zDD r&&cM a sc N bs l&&cM b sc N bs r
 | .dpop a b,sc,N,bs=>λe=>zAv e λz1 z2 z3 cpos=>zAd z1 λl m apos=>on1 z2 λv=>on0 z3<|(decide (m = "pop")&&zFi l&&(apos.endLine==cpos.line)&&zAc v&&cM a sc N bs l&&cM b sc N bs v)
 | .idx a b,sc,N,bs=>λe=>zAv e λz1 z2 z3 cpos=>zAd z1 λl m apos=>on1 z2 λv=>on0 z3<|(decide (m = "index")&&zFi l&&(apos.endLine==cpos.line)&&zAc v&&cM a sc N bs l&&cM b sc N bs v)
 | .len a,sc,N,bs=>λe=>zAv e λz1 z2 z3 _=>zAg z1 λy _=>on1 z2 λl=>on0 z3<|(decide (y = "len")&&bltB sc bs "len"&&zAc l&&cM a sc N bs l)
 | .lcp a,sc,N,bs=>λe=>zAv e λz1 z2 z3 _=>zAg z1 λy _=>on1 z2 λl=>on0 z3<|(decide (y = "list")&&bltB sc bs "list"&&zAc l&&cM a sc N bs l)
 | .comp n ms x src el,sc,N,bs=>λe=>zDV e λv z1 scope _=>on1 z1 λz2=>zOE z2 λz3 t z4 a=>zAg z3 λy _=>on0 z4<|(decide (x=y)&&decide (a=0)&&decide (n=N.length)&&cscB sc scope&&zLa scope N ms&&decide ((mask noN ms N++[x]).Nodup)&&locB (relS sc scope) x&&ownB scope x&&cSrc src sc N bs t&&cM el (relS sc scope) (mask noN ms N++[x]) bs v)
 | _,_,_,_=>λ_=>false
noncomputable def cMs:ME->Scope->List Str->List Str->List Expr->Bool
 | .nil,sc,N,bs=>λl=>l.isEmpty
 | .cons e es,sc,N,bs=>λl=>match l with
  | x::xs=>zAc x&&cM e sc N bs x&&cMs es sc N bs xs
  | []=>false
 | _,_,_,_=>λ_=>false
noncomputable def cSrc:ME->Scope->List Str->List Str->Expr->Bool
 | .rng a,sc,N,bs=>λx=>zAv x λz1 z2 z3 _=>zAg z1 λy _=>on1 z2 λl=>on0 z3<|(decide (y = "range")&&bltB sc bs "range"&&zAc l&&cM a sc N bs l)
 | .rng2 a b,sc,N,bs=>λ_=>false
 | .it a,sc,N,bs=>λx=>zJT x&&cM a sc N bs x
 | _,_,_,_=>λ_=>false
end
mutual
noncomputable def cT:ME->Scope->List Str->List Str->Expr->Bool
 | .pur e,sc,N,bs=>λx=>cE e sc N bs x
 | .cmp op a b,sc,N,bs=>λx=>cM (.cmp op a b) sc N bs x
 | .call n f es,sc,N,bs=>λx=>cM (.call n f es) sc N bs x
 | .nid a b,sc,N,bs=>λe=>zCi e λl z1 z2 _=>on1 z1 λop'=>on1 z2 λr=>cmB .NotIn op'&&!(behindInMarks .NotIn r)&&cM a sc N bs l&&cM b sc N bs r
 | .not a,sc,N,bs=>λe=>zDL e λz1 l _=>onEq z1 .Not<|(cT a sc N bs l)
 | .orl es,sc,N,bs=>λe=>zDs e λz1 l _=>onEq z1 .Or<|(cTs es sc N bs l)
 | _,_,_,_=>λ_=>false
noncomputable def cTs:ME->Scope->List Str->List Str->List Expr->Bool
 | .cons e es,sc,N,bs=>λl=>match es with
  | .nil=>(match l with
   | [x]=>cT e sc N bs x
   | _=>false)
  | es=>(match l with
   | x::y::xs=>cT e sc N bs x&&cTs es sc N bs (y::xs)
   | _=>false)
 | _,_,_,_=>λ_=>false
end
noncomputable def zOU:ME->Bool
 | .comp _ _ _ _ _=>true
 | _=>false
mutual
noncomputable def cS' (sc:Scope)(N bs:List Str):MT->Stmt->Bool
 | .set i e=>λs=>zCQ s λz1 v _=>on1 z1 λz2=>zAg z2 λy _=>varB sc N i y&&zF3 v&&cM e sc N bs v
 | .setC i e=>λs=>zCQ s λz1 v _=>on1 z1 λz2=>zAg z2 λy _=>zOU e&&varB sc N i y&&cM e sc N bs v
 | .app t e=>λs=>zCg s λz1 _=>zAv z1 λz2 z3 z4 cpos=>zAd z2 λb m apos=>on1 z3 λv=>on0 z4<|(decide (m = "append")&&zFi b&&(apos.endLine==cpos.line)&&zAc v&&cM t sc N bs b&&cM e sc N bs v)
 | .ife c a b=>λs=>onIf s λt l r _=>cT c sc N bs t&&cSs' sc N bs a l&&cSs' sc N bs b r
 | .for1 i it b=>λs=>zOF s λz1 t l z2 _=>zAg z1 λy _=>on0 z2<|(varB sc N i y&&cSrc it sc N bs t&&cSs' sc N bs b l)
 | .ret e=>λs=>zDM s λz1 _=>zHa z1 λv=>cM e sc N bs v
 | .retN=>λs=>zDM s λz1 _=>zJK z1<|(true)
 | .drop e=>λs=>zCg s λv _=>zF3 v&&cM e sc N bs v
 | .rem t e=>λs=>zCg s λz1 _=>zAv z1 λz2 z3 z4 cpos=>zAd z2 λb m apos=>on1 z3 λv=>on0 z4<|(decide (m = "remove")&&zFi b&&(apos.endLine==cpos.line)&&zAc v&&cM t sc N bs b&&cM e sc N bs v)
 | .rev t=>λs=>zCg s λz1 _=>zAv z1 λz2 z3 z4 cpos=>zAd z2 λb m apos=>on0 z3<|on0 z4<|(decide (m = "reverse")&&zFi b&&(apos.endLine==cpos.line)&&cM t sc N bs b)
 | .ins t k e=>λs=>zCg s λz1 _=>zAv z1 λz2 z3 z4 cpos=>zAd z2 λb m apos=>on2 z3 λkk v=>on0 z4<|(decide (m = "insert")&&zFi b&&(apos.endLine==cpos.line)&&zAc kk&&zAc v&&cM t sc N bs b&&cM k sc N bs kk&&cM e sc N bs v)
 | .faug a f e=>λs=>zCP s λz1 op v _=>zAd z1 λo f' _=>decide (f'=f)&&opB .Add op&&cM a sc N bs o&&cM e sc N bs v
 | .iaug t k e=>λs=>zCP s λz1 op v _=>zBL z1 λb kk _=>opB .Add op&&zDD kk&&cM t sc N bs b&&cM k sc N bs kk&&cM e sc N bs v
 | .dput t k e=>λs=>zCQ s λz1 v _=>on1 z1 λz2=>zBL z2 λb kk _=>cM t sc N bs b&&cM k sc N bs kk&&cM e sc N bs v
 | .never=>λ_=>true
 | .nil=>λ_=>false
 | .cons _ _=>λ_=>false
noncomputable def cSs' (sc:Scope)(N bs:List Str):MT->List Stmt->Bool
 | .nil=>λl=>l.isEmpty
 | .cons a b=>λl=>match l with
  | s::r=>cS' sc N bs a s&&cSs' sc N bs b r
  | []=>false
 | _=>λ_=>false
end
end DL
end
section
namespace DL
open PySem Spec PyProof.Rows L2
structure XOkM (X:Cx)(k:Nat)(J:Gm)(Y:Dm)(bs:List Str):Prop where
 x:XOk X k J bs
 d:DmOk X.prog X.w X.K X.mg X.base k Y
theorem XOkM.comp (o:XOkM X k J Y bs)(nd:N.Nodup):XOkM (zAW X N scope s H fp) k J Y bs:=⟨o.x.comp nd,o.d⟩
section
variable {X:Cx}{k:Nat}{J:Gm}{Y:Dm}{bs:List Str}
theorem zGz (h:∀ s,f s=none):GM X e f:=λpins s B H Q I zz130=>by
 obtain⟨U,O,G,r,ms,q,c⟩:=zz130
 simp_all
theorem zLs (h:∀ s,f s=none):GTM X e f:=λpins s B H Q I zz131=>by
 obtain⟨U,O,G,r,ms,q,c⟩:=zz131
 simp_all
theorem zFp (h:∀ x y,o x y=none)(s:Mst):twoM f g (opM o) s=none:=by
 unfold twoM;cases f s with
 | none=>rfl
 | some x =>
  rw[qx];cases g _ with
  | none=>rfl
  | some y =>
   unfold opM
   simp_all
theorem zOv (hu:X.A.units+64 < cLine)(ha:GM X a f)(hb:GM X b g):GM X (.Compare a [op] [b] pos) (twoM f g (opM (cmpD op)))/\GTM X (.Compare a [op] [b] pos) (asBM (twoM f g (opM (cmpD op)))):=by
 rcases zH2 hu with ⟨r,h1,h2,h3⟩ | h
 .exact ⟨zRR h1 h2 (h3 b) ha hb,zOf h1 h2 (h3 b) ha hb⟩
 .exact ⟨zGz (zFp h),zLs λs=>by unfold asBM;rw[zFp h]⟩
theorem zSu (o:XOkM X k J Y bs)(hg:Gl X f)(hd:(f==("__debug__":Str))=false)(ha:GAM X (x::xs) g)(hst:∀ e∈x::xs,zAc e=true)(hsp:spec.lookup f=none):GM X (.Call (.Name f p) (x::xs) [] pos) (fnM Y n f g):=by
 cases q:Y[n]? with
 | none=>exact zGz λs=>by unfold fnM;rw[q]
 | some yF =>
  obtain⟨y,F⟩:=yF;by_cases e:y=f
  .subst e;have ef:fnM Y n y g=zKv F g:=by
    funext s;unfold fnM
    simp_all
   rw[ef];have D:=o.d y F (mem_of_getElem? q);rw[hsp] at D;obtain⟨a,fd,ps,h1,h2,h3,h4⟩:=D;exact zOw h1 o.x.room hg h2 h3 h4 ha hd (zAD (hst x q8)) (zBq λe z=>hst e (qY _ z))
  .exact zGz λs=>by
    unfold fnM;rw[q];exact if_neg e
theorem zBp {c}(h:zFi b=true):attributeBase b m env c=c:=by
 cases b<;>first | rfl | cases h
theorem zIP (h:zDD e=true):NoSl e:=by
 cases e<;>first | intro o i;rfl | cases h
theorem zGp (h:zDD e=true):∀ ov iv new,augStore e ov iv new=(do holding [new,ov,iv] (setItem ov iv new);release [new,ov,iv] [];pure .next):=by
 cases e<;>first | intros;rfl | cases h
theorem zER :∀ {es:List Expr},cMs a sc N bs es=true->∀ e∈es,zAc e=true:=by
 induction a with
 | nil =>
  intro es h;cases es with
  | nil=>intro e z;exact absurd z (by simp)
  | cons x xs=>exact zzf h
 | cons a b _ ih =>
  intro es h;cases es with
  | nil=>intro e z;exact absurd z (by simp)
  | cons x xs =>
   simp only[cMs,x8] at h;intro e z;rcases mem_cons.mp z with rfl | z
   .simp_all
   .exact ih h.2 e z
 | _=>intro es h;exact zzf h
theorem zRo (h:∀ e∈es,zAc e=true)(hl:es.length < 30)(pos:Pos):methodCallForm (es.length+([]:List Keyword).length) (backTo pos (starEach es X.env)) (backToKw pos (keywordEach [] X.env))=true:=by
 unfold methodCallForm;have q:=zBq (X:=X) h pos;rw[x8,x8];refine⟨⟨?_,rfl⟩,decide_eq_true (by assumption)⟩
 simp_all
structure zTA (X:Cx)(J:Gm)(Y:Dm)(bs:List Str)(a:ME):Prop where
 e:∀ e,cM a X.env.scope X.N bs e=true->GM X e (evM J Y a)
 es:∀ es,cMs a X.env.scope X.N bs es=true->GAM X es (evMs J Y a)
 s:∀ it,cSrc a X.env.scope X.N bs it=true->(∀ tg,GIM X tg it (evSrc J Y a))/\∀ x,foldedSetIterable it X.env x=pure x
 t:∀ e,cT a X.env.scope X.N bs e=true->GTM X e (evT J Y a)
 ts:∀ l,cTs a X.env.scope X.N bs l=true->∀ pos,GWM X (.BoolOp .And l pos) (zGF J Y a)/\GWM X (.BoolOp .Or l pos) (evOrT J Y a)
theorem fls {p:Prop}(h:b=true)(n:b=false):p:=by grind
theorem zAz (o:XOkM X k J Y bs)(a:ME):zTA X J Y bs a:=by
 induction a generalizing X with
 | pur e =>
  refine⟨λx h=>zOs (((zDJ o.x e).e _ h).1),λ_ h=>fls h rfl,λ_ h=>fls h rfl,λx h=>zLt (((zDJ o.x e).e _ h).2),λ_ h=>fls h rfl⟩
 | var i =>
  refine⟨λx h=>?_,λ_ h=>fls h rfl,λ_ h=>fls h rfl,λ_ h=>fls h rfl,λ_ h=>fls h rfl⟩;replace h:cE (.var i) X.env.scope X.N bs x=true:=h;obtain⟨_,_,rfl,hq1⟩:=zAH h;replace h:=hq1;simp only[x8,qy] at h;obtain⟨⟨h2,h3⟩,h4⟩:=h;obtain⟨n1,n2⟩:=zCj h4;exact zRI h2 (zE7 h3) n1 n2
 | call n f es ih =>
  have key:∀ e,cM (.call n f es) X.env.scope X.N bs e=true->GM X e (evM J Y (.call n f es))/\GTM X e (asBM (evM J Y (.call n f es))):=λe h=>by
   obtain⟨z1,z2,z3,_,rfl,hq1⟩:=zAL h;obtain⟨_,_,rfl,hq2⟩:=zAH hq1;obtain⟨_,_,rfl,hq3⟩:=zF2 hq2;obtain⟨rfl,hq4⟩:=zAh hq3;replace h:=hq4;simp only[x8,qy,Option.isNone_iff_eq_none] at h;obtain⟨⟨⟨⟨rfl,h2⟩,h3⟩,h5⟩,h4⟩:=h;have k:=λp pos=>zSu (n:=n) (p:=p) (pos:=pos) o (zEq h2) (zCj h3).1 ((ih o).es _ h4) (zER h4) h5
   exact⟨k _ _,zOc (k _ _) λ_=>rfl⟩
  exact⟨λe h=>(key e h).1,λ_ h=>fls h rfl,λ_ h=>fls h rfl,λe h=>(key e h).2,λ_ h=>fls h rfl⟩
 | lst es ih =>
  refine⟨λx h=>?_,λ_ h=>fls h rfl,λ_ h=>fls h rfl,λ_ h=>fls h rfl,λ_ h=>fls h rfl⟩;obtain⟨_,_,rfl,hq1⟩:=zF1 h;replace h:=hq1;exact zRL ((ih o).es _ h)
 | tup es ih =>
  refine⟨λx h=>?_,λ_ h=>fls h rfl,λ_ h=>fls h rfl,λ_ h=>fls h rfl,λ_ h=>fls h rfl⟩;obtain⟨_,_,_,rfl,hq1⟩:=zEk h;replace h:=hq1;exact zRJ ((ih o).es _ h)
 | ix a b iha ihb =>
  refine⟨λx h=>?_,λ_ h=>fls h rfl,λ_ h=>fls h rfl,λ_ h=>fls h rfl,λ_ h=>fls h rfl⟩;obtain⟨_,_,_,rfl,hq1⟩:=zA3 h;replace h:=hq1;simp only[x8] at h;obtain⟨⟨h0,h1⟩,h2⟩:=h;exact zSt ((iha o).e _ h1) ((ihb o).e _ h2) (zEm h0)
 | cmp op a b iha ihb =>
  have key:∀ e,cM (.cmp op a b) X.env.scope X.N bs e=true->GM X e (evM J Y (.cmp op a b))/\GTM X e (asBM (evM J Y (.cmp op a b))):=λe h=>by
   obtain⟨_,z1,z2,_,rfl,hq1⟩:=zB2 h;obtain⟨_,rfl,hq2⟩:=zAo hq1;obtain⟨_,rfl,hq3⟩:=zAo hq2;replace h:=hq3;simp only[x8,cmB,qy] at h;obtain⟨⟨rfl,h1⟩,h2⟩:=h;exact zOv (zCK o.x) ((iha o).e _ h1) ((ihb o).e _ h2)
  exact⟨λe h=>(key e h).1,λ_ h=>fls h rfl,λ_ h=>fls h rfl,λe h=>(key e h).2,λ_ h=>fls h rfl⟩
 | fld a f iha =>
  refine⟨λx h=>?_,λ_ h=>fls h rfl,λ_ h=>fls h rfl,λ_ h=>fls h rfl,λ_ h=>fls h rfl⟩;obtain⟨_,_,_,rfl,hq1⟩:=zAQ h;replace h:=hq1;simp only[x8,qy] at h;obtain⟨⟨rfl,h2⟩,h3⟩:=h;exact zRP ((iha o).e _ h3) (zBp h2) λc m C q=>o.x.g.ob _ m C q
 | mth ix m a es iha ihs =>
  refine⟨λx h=>?_,λ_ h=>fls h rfl,λ_ h=>fls h rfl,λ_ h=>fls h rfl,λ_ h=>fls h rfl⟩;obtain⟨z1,z2,z3,_,rfl,hq1⟩:=zAL h;obtain⟨_,_,_,rfl,hq2⟩:=zAQ hq1;obtain⟨rfl,hq4⟩:=zAh hq2;replace h:=hq4;simp only[x8,qy] at h;obtain⟨⟨⟨⟨⟨rfl,h2⟩,h3⟩,h4⟩,h5⟩,h6⟩:=h;cases z2 with
  | nil =>
   cases es with
   | nil=>exact zOr ((iha o).e _ h5) o.d o.x.room (zBp h2) h3
   | _=>exact(zzf h6)
  | cons x xs =>
  have st:=zER h6;exact zRK ((iha o).e _ h5) ((ihs o).es _ h6) o.d o.x.room (zAD (st _ q8)) (zBq (λe z=>st e (qY _ z)) _) (zBp h2) (zRo st h4 _) h3
 | mk n c kw d es ihs =>
  refine⟨λx h=>?_,λ_ h=>fls h rfl,λ_ h=>fls h rfl,λ_ h=>fls h rfl,λ_ h=>fls h rfl⟩;obtain⟨z1,z2,z3,_,rfl,hq1⟩:=zAL h;obtain⟨_,_,rfl,hq2⟩:=zAH hq1;obtain⟨_,_,rfl,hq3⟩:=zF2 hq2;obtain⟨rfl,hq4⟩:=zAh hq3;replace h:=hq4;simp only[x8,qy] at h;obtain⟨⟨⟨rfl,h2⟩,h3⟩,h4⟩:=h;have st:=zER h4;exact zSs ((ihs o).es _ h4) o.d o.x.room (zEq h2) (zCj h3).1 (zAD (st _ q8)) (zBq (λe z=>st e (qY _ z)) _)
 | dnew t =>
  refine⟨λx h=>?_,λ_ h=>fls h rfl,λ_ h=>fls h rfl,λ_ h=>fls h rfl,λ_ h=>fls h rfl⟩;obtain⟨z1,z2,_,rfl,hq1⟩:=zJO h;obtain⟨rfl,hq2⟩:=zAh hq1;obtain⟨rfl,_⟩:=zAh hq2;exact zOu
 | dix a b iha ihb =>
  refine⟨λx h=>?_,λ_ h=>fls h rfl,λ_ h=>fls h rfl,λ_ h=>fls h rfl,λ_ h=>fls h rfl⟩;obtain⟨_,_,_,rfl,hq1⟩:=zA3 h;replace h:=hq1;simp only[x8] at h;obtain⟨⟨h0,h1⟩,h2⟩:=h;exact zRQ (Nat.lt_of_le_of_lt (by omega) (zCK o.x)) ((iha o).e _ h1) ((ihb o).e _ h2) (zIP h0)
 | dpop a b iha ihb =>
  refine⟨λx h=>?_,λ_ h=>fls h rfl,λ_ h=>fls h rfl,λ_ h=>fls h rfl,λ_ h=>fls h rfl⟩;obtain⟨z1,z2,z3,_,rfl,hq1⟩:=zAL h;obtain⟨_,_,_,rfl,hq2⟩:=zAQ hq1;obtain⟨_,rfl,hq3⟩:=zAo hq2;obtain⟨rfl,hq4⟩:=zAh hq3;replace h:=hq4;simp only[x8,qy] at h;obtain⟨⟨⟨⟨⟨rfl,h2⟩,h3⟩,h4⟩,h5⟩,h6⟩:=h;exact zOt ((iha o).e _ h5) ((ihb o).e _ h6) (zAD h4) (zBp h2) h3
 | idx a b iha ihb =>
  refine⟨λx h=>?_,λ_ h=>fls h rfl,λ_ h=>fls h rfl,λ_ h=>fls h rfl,λ_ h=>fls h rfl⟩;obtain⟨z1,z2,z3,_,rfl,hq1⟩:=zAL h;obtain⟨_,_,_,rfl,hq2⟩:=zAQ hq1;obtain⟨_,rfl,hq3⟩:=zAo hq2;obtain⟨rfl,hq4⟩:=zAh hq3;replace h:=hq4;simp only[x8,qy] at h;obtain⟨⟨⟨⟨⟨rfl,h2⟩,h3⟩,h4⟩,h5⟩,h6⟩:=h;exact zRO ((iha o).e _ h5) ((ihb o).e _ h6) (zAD h4) (zBp h2) h3
 | lcp a iha =>
  refine⟨λx h=>?_,λ_ h=>fls h rfl,λ_ h=>fls h rfl,λ_ h=>fls h rfl,λ_ h=>fls h rfl⟩;obtain⟨z1,z2,z3,_,rfl,hq1⟩:=zAL h;obtain⟨_,_,rfl,hq2⟩:=zAH hq1;obtain⟨_,rfl,hq3⟩:=zAo hq2;obtain⟨rfl,hq4⟩:=zAh hq3;replace h:=hq4;simp only[x8,qy] at h;obtain⟨⟨⟨rfl,h2⟩,h3⟩,h4⟩:=h;obtain⟨g1,g2⟩:=zBC o.x h2;exact zRN g1 g2 ((iha o).e _ h4) (zAD h3)
 | len a iha =>
  refine⟨λx h=>?_,λ_ h=>fls h rfl,λ_ h=>fls h rfl,λ_ h=>fls h rfl,λ_ h=>fls h rfl⟩;obtain⟨z1,z2,z3,_,rfl,hq1⟩:=zAL h;obtain⟨_,_,rfl,hq2⟩:=zAH hq1;obtain⟨_,rfl,hq3⟩:=zAo hq2;obtain⟨rfl,hq4⟩:=zAh hq3;replace h:=hq4;simp only[x8,qy] at h;obtain⟨⟨⟨rfl,h2⟩,h3⟩,h4⟩:=h;obtain⟨g1,g2⟩:=zBC o.x h2;exact zRM g1 g2 ((iha o).e _ h4) (zAD h3)
 | nid a b iha ihb =>
  refine⟨λ_ h=>fls h rfl,λ_ h=>fls h rfl,λ_ h=>fls h rfl,λe h=>?_,λ_ h=>fls h rfl⟩;obtain⟨_,z1,z2,_,rfl,hq1⟩:=zB2 h;obtain⟨_,rfl,hq2⟩:=zAo hq1;obtain⟨_,rfl,hq3⟩:=zAo hq2;replace h:=hq3;simp only[x8,cmB,qy,Bool.not_eq_true'] at h;obtain⟨⟨⟨rfl,h0⟩,h1⟩,h2⟩:=h;exact zOe (Nat.lt_of_le_of_lt (by omega) (zCK o.x)) h0 ((iha o).e _ h1) ((ihb o).e _ h2)
 | comp n ms x src el ihs ihe =>
  refine⟨λe h=>?_,λ_ h=>fls h rfl,λ_ h=>fls h rfl,λ_ h=>fls h rfl,λ_ h=>fls h rfl⟩;obtain⟨v,z1,scope,pos,rfl,hq1⟩:=zCN h;obtain⟨z2,rfl,hq2⟩:=zAo hq1;obtain⟨z3,t,z4,a,rfl,hq3⟩:=zFP hq2;obtain⟨y,py,rfl,hq4⟩:=zAH hq3;obtain⟨rfl,hq5⟩:=zAh hq4;replace h:=hq5;simp only[x8,qy] at h;obtain⟨⟨⟨⟨⟨⟨⟨⟨⟨rfl,rfl⟩,rfl⟩,h4⟩,h5⟩,h6⟩,h7⟩,h8⟩,h9⟩,h11⟩:=h;have cx:∀ s H fp,XOkM (zAW X (mask noN ms X.N++[x]) scope s H fp) k J Y bs:=λs H fp=>o.comp h6
  exact zJ1 o.x.calm (((ihs o).s _ h9).1 _) ((ihs o).s _ h9).2 (zHB h4) (zFU h5) (λs H fp=>zFY (X:=zAW X (mask noN ms X.N++[x]) scope s H fp) h6 (zKG (k:=0) rfl) (zD4 h7) (.inl h8)) λs H fp=>(ihe (cx s H fp)).e _ h11
 | rng a iha =>
  refine⟨λ_ h=>fls h rfl,λ_ h=>fls h rfl,λx h=>?_,λ_ h=>fls h rfl,λ_ h=>fls h rfl⟩;obtain⟨z1,z2,z3,_,rfl,hq1⟩:=zAL h;obtain⟨_,_,rfl,hq2⟩:=zAH hq1;obtain⟨_,rfl,hq3⟩:=zAo hq2;obtain⟨rfl,hq4⟩:=zAh hq3;replace h:=hq4;simp only[x8,qy] at h;obtain⟨⟨⟨rfl,h2⟩,h3⟩,h4⟩:=h;obtain⟨g1,g2⟩:=zBC o.x h2;exact⟨λtg=>zIc g1 g2 ((iha o).e _ h4) (zAD h3),λ_=>rfl⟩
 | rng2 a b =>
  exact⟨λ_ h=>fls h rfl,λ_ h=>fls h rfl,λ_ h=>fls h rfl,λ_ h=>fls h rfl,λ_ h=>fls h rfl⟩
 | it a iha =>
  refine⟨λ_ h=>fls h rfl,λ_ h=>fls h rfl,λx h=>?_,λ_ h=>fls h rfl,λ_ h=>fls h rfl⟩;replace h:(zJT x&&cM a X.env.scope X.N bs x)=true:=h;simp only[x8] at h;exact⟨λtg=>zOx ((iha o).e _ h.2),zEn h.1⟩
 | not a iha =>
  refine⟨λ_ h=>fls h rfl,λ_ h=>fls h rfl,λ_ h=>fls h rfl,λe h=>?_,λ_ h=>fls h rfl⟩;obtain⟨z1,_,_,rfl,hq1⟩:=zCh h;obtain⟨rfl,hq2⟩:=zDB hq1;replace h:=hq2;exact zOd ((iha o).t _ h)
 | orl es ih =>
  refine⟨λ_ h=>fls h rfl,λ_ h=>fls h rfl,λ_ h=>fls h rfl,λe h=>?_,λ_ h=>fls h rfl⟩;obtain⟨z1,_,_,rfl,hq1⟩:=zDC h;obtain⟨rfl,hq2⟩:=zDB hq1;replace h:=hq2;exact zQ6 (((ih o).ts _ h _).2)
 | nil =>
  refine⟨λ_ h=>fls h rfl,λes h=>?_,λ_ h=>fls h rfl,λ_ h=>fls h rfl,λ_ h=>fls h rfl⟩;cases es with
  | nil=>exact zO4
  | cons x xs=>exact(zzf h)
 | cons e es ihe ihs =>
  refine⟨λ_ h=>fls h rfl,λl h=>?_,λ_ h=>fls h rfl,λ_ h=>fls h rfl,λl h pos=>?_⟩
  .cases l with
   | nil=>exact(zzf h)
   | cons x xs =>
    replace h:(zAc x&&cM e X.env.scope X.N bs x&&cMs es X.env.scope X.N bs xs)=true:=h;simp only[x8] at h;exact zMB ((ihe o).e _ h.1.2) ((ihs o).es _ h.2) (zAD h.1.1)
  .simp only [cTs] at h;split at h
   .split at h
    .exact ⟨zLr ((ihe o).t _ h),zOa ((ihe o).t _ h)⟩
    .cases h
   .rename_i hn;split at h
    .rw [x8] at h;have q:=(ihs o).ts _ h.2 pos;have ea:zGF J Y (.cons e es)=andB (evT J Y e) (zGF J Y es):=by
      rw[zGF];exact hn
     have eo:evOrT J Y (.cons e es)=orB (evT J Y e) (evOrT J Y es):=by
      rw[evOrT];exact hn
     rw[ea,eo];exact⟨zOb ((ihe o).t _ h.1) q.1,zQ4 ((ihe o).t _ h.1) q.2⟩
    .cases h
end
section
variable {X:Cx}{k:Nat}{J:Gm}{Y:Dm}{bs:List Str}
theorem zIt :swapsWith e (some (.Attribute o f p)) n env=pure false:=by cases e<;>rfl
theorem zLA :swapsWith e (some (.Subscript o i p)) n env=pure false:=by cases e<;>rfl
theorem zIw (o:XOkM X k J Y bs)(fnl:∀ x,X.fn x=true)(a:MT):(∀ st,cS' X.env.scope X.N bs a st=true->GSM X st (evS' J Y a))/\∀ sts,cSs' X.env.scope X.N bs a sts=true->GSsM X sts (evSs' J Y a):=by
 have nd:=o.x.nd
 induction a with
 | nil =>
  refine⟨λ_ h=>fls h rfl,λl h=>?_⟩;cases l with
  | nil=>exact zLu
  | cons x xs=>exact(zzf h)
 | cons a b iha ihb =>
  refine⟨λ_ h=>fls h rfl,λl h=>?_⟩;cases l with
  | nil=>exact(zzf h)
  | cons x xs =>
   replace h:(cS' X.env.scope X.N bs a x&&cSs' X.env.scope X.N bs b xs)=true:=h;simp only[x8] at h;exact zJx (iha.1 _ h.1) (ihb.2 _ h.2)
 | set i e =>
  refine⟨λst h=>?_,λ_ h=>fls h rfl⟩;obtain⟨z1,_,_,rfl,hq1⟩:=zBZ h;obtain⟨z2,rfl,hq2⟩:=zAo hq1;obtain⟨_,_,rfl,hq3⟩:=zAH hq2;replace h:=hq3;simp only[x8] at h;obtain⟨⟨h2,h3⟩,h4⟩:=h;obtain⟨v1,v2,_⟩:=zB7 h2;exact zJy nd v1 v2 ((zAz o e).e _ h4) (zDE h3) (.inl (fnl _))
 | setC i e =>
  refine⟨λst h=>?_,λ_ h=>fls h rfl⟩;obtain⟨z1,_,_,rfl,hq1⟩:=zBZ h;obtain⟨z2,rfl,hq2⟩:=zAo hq1;obtain⟨_,_,rfl,hq3⟩:=zAH hq2;replace h:=hq3;simp only[x8] at h;obtain⟨⟨h2,h3⟩,h4⟩:=h;obtain⟨w1,w2,_⟩:=zB7 h3;cases e with
  | comp n ms x src el =>
   obtain⟨v,z1,scope,pos,rfl,hr1⟩:=zCN h4;obtain⟨z2,rfl,hr2⟩:=zAo hr1;obtain⟨z3,t,z4,a,rfl,hr3⟩:=zFP hr2;obtain⟨y,py,rfl,hr4⟩:=zAH hr3;obtain⟨rfl,hr5⟩:=zAh hr4;replace h4:=hr5
   .simp only [x8,qy] at h4;obtain⟨⟨⟨⟨⟨⟨⟨⟨⟨rfl,rfl⟩,rfl⟩,h4⟩,h5⟩,h6⟩,h7⟩,h8⟩,h9⟩,h11⟩:=h4;have cx:∀ s H fp,XOkM (zAW X (mask noN ms X.N++[x]) scope s H fp) k J Y bs:=λs H fp=>o.comp h6
    exact zLw o.x.calm (((zAz o src).s _ h9).1 _) ((zAz o src).s _ h9).2 (zHB h4) (zFU h5) (λs H fp=>zFY (X:=zAW X (mask noN ms X.N++[x]) scope s H fp) h6 (zKG (k:=0) rfl) (zD4 h7) (.inl h8)) (λs H fp=>(zAz (cx s H fp) el).e _ h11) nd w1 w2 (.inl (fnl _))
  | _=>cases h2
 | app t e =>
  refine⟨λst h=>?_,λ_ h=>fls h rfl⟩;obtain⟨z1,_,rfl,hq1⟩:=zBY h;obtain⟨z2,z3,z4,_,rfl,hq2⟩:=zAL hq1;obtain⟨_,_,_,rfl,hq3⟩:=zAQ hq2;obtain⟨_,rfl,hq4⟩:=zAo hq3;obtain⟨rfl,hq5⟩:=zAh hq4;replace h:=hq5;simp only[x8,qy] at h;obtain⟨⟨⟨⟨⟨rfl,h2⟩,h3⟩,h4⟩,h5⟩,h6⟩:=h;exact zOm ((zAz o t).e _ h5) ((zAz o e).e _ h6) (zAD h4) (zBp h2) h3
 | ife c a b iha ihb =>
  refine⟨λst h=>?_,λ_ h=>fls h rfl⟩;obtain⟨_,_,_,_,rfl,hq1⟩:=zJM h;replace h:=hq1;simp only[x8] at h;obtain⟨⟨h1,h2⟩,h3⟩:=h;exact zRC ((zAz o c).t _ h1) (iha.2 _ h2) (ihb.2 _ h3)
 | for1 i it b ihb =>
  refine⟨λst h=>?_,λ_ h=>fls h rfl⟩;obtain⟨z1,_,_,z2,_,rfl,hq1⟩:=zHb h;obtain⟨_,_,rfl,hq2⟩:=zAH hq1;obtain⟨rfl,hq3⟩:=zAh hq2;replace h:=hq3;simp only[x8] at h;obtain⟨⟨h2,h3⟩,h4⟩:=h;obtain⟨v1,v2,_⟩:=zB7 h2;obtain⟨s1,s2⟩:=(zAz o it).s _ h3;exact zOl o.x.own o.x.calm (s1 _) (zFY nd v1 v2 (.inl (fnl _))) (ihb.2 _ h4) s2
 | ret e =>
  refine⟨λst h=>?_,λ_ h=>fls h rfl⟩;obtain⟨z1,_,rfl,hq1⟩:=zCM h;obtain⟨_,rfl,hq2⟩:=zDw hq1;replace h:=hq2;exact zOj ((zAz o e).e _ h)
 | retN =>
  refine⟨λst h=>?_,λ_ h=>fls h rfl⟩;obtain⟨z1,_,rfl,hq1⟩:=zCM h;obtain⟨rfl,hq2⟩:=zF0 hq1;replace h:=hq2;exact zLx
 | drop e =>
  refine⟨λst h=>?_,λ_ h=>fls h rfl⟩;obtain⟨_,_,rfl,hq1⟩:=zBY h;replace h:=hq1;simp only[x8] at h;exact zL0 ((zAz o e).e _ h.2) (zDE h.1)
 | rem t e =>
  refine⟨λst h=>?_,λ_ h=>fls h rfl⟩;obtain⟨z1,_,rfl,hq1⟩:=zBY h;obtain⟨z2,z3,z4,_,rfl,hq2⟩:=zAL hq1;obtain⟨_,_,_,rfl,hq3⟩:=zAQ hq2;obtain⟨_,rfl,hq4⟩:=zAo hq3;obtain⟨rfl,hq5⟩:=zAh hq4;replace h:=hq5;simp only[x8,qy] at h;obtain⟨⟨⟨⟨⟨rfl,h2⟩,h3⟩,h4⟩,h5⟩,h6⟩:=h;exact zRB PySem.F.slot_list_remove PySem.F.type_list_remove zJX zQA ((zAz o t).e _ h5) ((zAz o e).e _ h6) (zAD h4) (zBp h2) h3
 | rev t =>
  refine⟨λst h=>?_,λ_ h=>fls h rfl⟩;obtain⟨z1,_,rfl,hq1⟩:=zBY h;obtain⟨z2,z3,z4,_,rfl,hq2⟩:=zAL hq1;obtain⟨_,_,_,rfl,hq3⟩:=zAQ hq2;obtain⟨rfl,hq4⟩:=zAh hq3;obtain⟨rfl,hq5⟩:=zAh hq4;replace h:=hq5;simp only[x8,qy] at h;obtain⟨⟨⟨rfl,h2⟩,h3⟩,h5⟩:=h;exact zOi ((zAz o t).e _ h5) (zBp h2) h3
 | ins t kk e =>
  refine⟨λst h=>?_,λ_ h=>fls h rfl⟩;obtain⟨z1,_,rfl,hq1⟩:=zBY h;obtain⟨z2,z3,z4,_,rfl,hq2⟩:=zAL hq1;obtain⟨_,_,_,rfl,hq3⟩:=zAQ hq2;obtain⟨_,_,rfl,hq4⟩:=zDx hq3;obtain⟨rfl,hq5⟩:=zAh hq4;replace h:=hq5;simp only[x8,qy] at h;obtain⟨⟨⟨⟨⟨⟨⟨rfl,h2⟩,h3⟩,h4⟩,h4'⟩,h5⟩,h6⟩,h7⟩:=h;exact zOk ((zAz o t).e _ h5) ((zAz o kk).e _ h6) ((zAz o e).e _ h7) (zAD h4) (zAD h4') (zBp h2) h3
 | faug a f e =>
  refine⟨λst h=>?_,λ_ h=>fls h rfl⟩;obtain⟨z1,_,_,_,rfl,hq1⟩:=zB8 h;obtain⟨_,_,_,rfl,hq2⟩:=zAQ hq1;replace h:=hq2;simp only[x8,qy,opB] at h;obtain⟨⟨⟨rfl,rfl⟩,h3⟩,h4⟩:=h;exact zLz ((zAz o a).e _ h3) ((zAz o e).e _ h4) λc m C q=>o.x.g.ob _ m C q
 | iaug t kk e =>
  refine⟨λst h=>?_,λ_ h=>fls h rfl⟩;obtain⟨z1,_,_,_,rfl,hq1⟩:=zB8 h;obtain⟨_,_,_,rfl,hq2⟩:=zA3 hq1;replace h:=hq2;simp only[x8,qy,opB] at h;obtain⟨⟨⟨⟨rfl,h2⟩,h3⟩,h4⟩,h5⟩:=h;exact zLy ((zAz o t).e _ h3) ((zAz o kk).e _ h4) ((zAz o e).e _ h5) (zGp h2)
 | dput t kk e =>
  refine⟨λst h=>?_,λ_ h=>fls h rfl⟩;obtain⟨z1,_,_,rfl,hq1⟩:=zBZ h;obtain⟨z2,rfl,hq2⟩:=zAo hq1;obtain⟨_,_,_,rfl,hq3⟩:=zA3 hq2;replace h:=hq3;simp only[x8] at h;obtain⟨⟨h3,h4⟩,h5⟩:=h;exact zL1 (Nat.lt_of_le_of_lt (by omega) (zCK o.x)) ((zAz o t).e _ h3) ((zAz o kk).e _ h4) ((zAz o e).e _ h5) zLA
 | never=>exact⟨λst h=>zJz,λ_ h=>fls h rfl⟩
end
section
variable {P:Program}{w:World}{K:W.Frag}{mg:Str->Option Value}{base:Heap}{k:Nat}{J:Gm}{Y:Dm}{bs:List Str}
theorem zG9 {st:Stmt}(F:Fun K x qual st f fd)(sc:zAq N ps (zAA st))(ck:cSs' (zAA st) N bs b (zAK st)=true)(g:GOk P w K mg base k J bs)(d:DmOk P w K mg base k Y) :
  FnOk P w K mg base CX0 (k+1) f fd ps (spM K (zBE ps.length N.length (evSs' J Y b))) :=
 zO7 F sc λcdv A outer s H E hr =>
  (zIw ⟨⟨g,hr,rfl,sc.nd,PassesOwn.never⟩,d⟩ (λ_=>rfl) b).2 _ ck
theorem DmOk.mono (d:DmOk P w K mg base k Y)(h:k<=j):DmOk P w K mg base j Y:=λx F m=>(d x F m).mono h
noncomputable def Dm.add (Y:Dm)(x:Str)(F:MF):Dm:=Y++[(x,F)]
theorem DmOk.one (d:DmOk P w K mg base k Y)(h:k<=j)(e:zK2 P w K mg base j x F (spec.lookup x)):DmOk P w K mg base j (Y.add x F):=λy G z=>by
 rcases mem_append.mp z with z | z
 .exact (d y G z).mono h
 .grind
theorem DmOk.add {st:Stmt}(d:DmOk P w K mg base k Y)(g:GOk P w K mg base k J bs)(F:Fun K x x st f fd)(sc:zAq N ps (zAA st))(ck:cSs' (zAA st) N bs b (zAK st)=true)(m:mg x=some (.ref f))(bi:zBb K fd ps [])(hx:spec.lookup x=none:=by decide +kernel) :
  DmOk P w K mg base (k+1) (Y.add x (zBE ps.length N.length (evSs' J Y b))):=d.one (Nat.le_succ k) (by rw[hx];exact⟨f,fd,ps,zG9 F sc ck g d,m,F.kp,bi⟩)
theorem DmOk.addM {st:Stmt}(d:DmOk P w K mg base k Y)(g:GOk P w K mg base k J bs)(F:Fun K nm qual st f fd)(sc:zAq N ps (zAA st))(ck:cSs' (zAA st) N bs b (zAK st)=true)(bi:zBb K fd ps [])(c1:zB0 K c C)(c2:Cls K C)(c3:Meth K C m f)(hx:spec.lookup x=some (.mth c m)) :
  DmOk P w K mg base (k+1) (Y.add x (zBE ps.length N.length (evSs' J Y b))):=d.one (Nat.le_succ k) (by rw[hx];exact⟨C,f,fd,ps,c1,c2,c3,zG9 F sc ck g d,bi⟩)
theorem GOk.mono (g:GOk P w K mg base k J bs)(h:k<=j):GOk P w K mg base j J bs :=
 ⟨λx F m=>let ⟨f,fd,ps,h1,h2⟩:=g.fn x F m;⟨f,fd,ps,h1.mono h,h2⟩,g.cs,g.bt,trivial,trivial,trivial,λj L F e=>(g.lm j L F e).mono h,g.ob⟩
end
theorem zPo (hx:H x=some (.ins C dx fs))(nd:zEJ fs=false):zCq (fzH H) (fzH (upd H x o)):=λb u q n=>by
 obtain⟨q1,q2⟩:=zCn.mp q;by_cases e:b=x
 .grind
 .exact zCn.mpr ⟨by rw[zAN e];exact q1,q2⟩
theorem zAG.updI {K:W.Frag}(c:zAG K H U G)(hx:H x=some (.ins C dx fs))(nd:zEJ fs=false)(nm:mutF fs=false):zAG K (upd H x o) U G :=
 ⟨c.len,c.nd,λn ws q=>let ⟨p,h1,h2⟩:=c.at_ n ws q;⟨p,h1,by
  have ne:p.1≠x:=λz=>by
   obtain⟨u,g1,g2⟩:=h2.some
   simp_all
   cases g1;rw[show fz1 _=if mutF fs=true then none else some _ from rfl] at g2;grind
  have:=h2.monoF (zPo (o:=o) hx nd) (zAN ne) [];rwa [append_nil] at this⟩⟩
noncomputable def zEC:List (Str×(Mst->Option MR))->Mst->Option (List W×Mem)
 | [],s=>some ([],s.G)
 | p::r,s=>(p.2 s).bind λw=>(zEC r ⟨s.O,w.2⟩).map λz=>(w.1::z.1,z.2)
noncomputable def mkR (c:Str)(ns:List Str)(z:List W×Mem):MR:=if mutK ns=true then (.ob c ns z.2.length,z.2++[z.1]) else (.obj c ns z.1,z.2)
noncomputable def zEZ (c:Str)(n:Nat)(L:List (Str×(Mst->Option MR))):MF:=λws G=>if ws.length=n then (zEC L ⟨none::ws.map some,G⟩).map (mkR c (L.map (·.1))) else none
def iT (K:W.Frag)(C dx x:Addr)(H1:Hp)(α0:List CA)(σ0:St)(O:List (Option W))(full:List Str)(L:List (Str×(Mst->Option MR))):TS:=λE B H =>
 ∃ Z G fs vs acc z,B=σ0/\H x=some (.ins C dx fs)/\x∉(α0++Z).map (·.1)/\Kp H1 H/\zAG K H (α0++Z) G/\fs.map (·.1)++L.map (·.1)=full/\((fs.map (·.1)).map λn=>fs.lookup n)=vs.map some/\DenWL K H (α0++Z) acc vs/\zEC L ⟨O,G⟩=some z /\
  ∀ Z' H' fs' vs',x∉(α0++Z').map (·.1)->Kp H1 H'->zAG K H' (α0++Z') z.2->H' x=some (.ins C dx fs')->fs'.map (·.1)=full->(full.map λn=>fs'.lookup n)=vs'.map some->DenWL K H' (α0++Z') (acc++z.1) vs'->E.nx σ0 H'
noncomputable def zNw (full:List Str):Bool:=(List.range full.length).all λi=>!(zKi (full.take i))&&!(mutK (full.take i))
inductive zEU (X:Cx) (y:Str):List Stmt->List (Str×(Mst->Option MR))->Prop where
 | nil:zEU X y [] []
 | cons {f:Str} {e:Expr} {g:Mst->Option MR} {p p2 pos:Pos} {rest:List Stmt} {L:List (Str×(Mst->Option MR))} (h:GM X e g) (t:zEU X y rest L):zEU X y (.Assign [.Attribute (.Name y p) f p2] e pos::rest) ((f,g)::L)
theorem zFI {f:Str}{v:V}:∀ {fs:List (Str×V)},f∉fs.map (·.1)->putF f v fs=fs++[(f,v)]
 | [],_=>rfl
 | (g,u)::r,h=>by
  rw[map_cons,mem_cons,not_or] at h;unfold putF;rw[if_neg (λz=>h.1 z.symm),zFI h.2]
  rfl
theorem zLl {α0:List CA}{σ0:St}(cl:Cls X.K C)(na:∀ n∈full,zBT X.K C n)(nd:full.Nodup)(hp:zNw full=true)(hl:full.length<=100)(n1:H1 x=none)
  (hy:X.N[0]?=some y) (vy:Vis X.env.scope y) (oy:okN y=true) (Z7:σ0[0]?=some (some (.ref x))) (hlen:σ0.length=O.length) (hvar:∀ (i:Nat) w,O[i]?=some (some w)->∃ v,σ0[i]?=some (some v)/\DenW X.K H1 α0 w v) :
  ∀ {sts:List Stmt} {L:List (Str×(Mst->Option MR))},zEU X y sts L->PSs X sts (iT X.K C dx x H1 α0 σ0 O full L):=by
 intro sts L h
 induction h with
 | nil =>
  refine zGj.imp λE B H zz132=>?_
  obtain⟨Z,G,fs,vs,acc,z,e1,hx,nx,k1,c1,hf,hv,da,ei,fin⟩:=zz132;cases ei;subst e1;simp only[map_nil,append_nil] at hf;exact fin Z H fs vs nx k1 c1 hx hf (by rw[<- hf];exact hv) (by rw[append_nil];exact da)
 | @cons f e g p p2 pos rest L hg t ih =>
  refine(zFJ (zQH (zDb hy vy (zCj oy).1 (zCj oy).2) hg zIt) ih).imp λE B H zz133=>?_
  obtain⟨Z,G,fs,vs,acc,z,e1,hx,nx,k1,c1,hf,hv,da,ei,fin⟩:=zz133;subst e1;obtain⟨w,ew,ei⟩:=bind_some ei;obtain⟨z',ez,e3⟩:=x9.mp ei;cases e3;have ms:MS X.K H (α0++Z) G B O:=⟨c1,hlen,λi w q=>let ⟨v,q1,q2⟩:=hvar i w q;⟨v,q1,q2.mono k1 Z⟩⟩;refine⟨α0++Z,O,G,w,ms,ew,λv H2 Z2 k2 c2 dv=>⟨.ref x,Z7,x,C,dx,fs,rfl,?_⟩⟩;have mf:f∈full:=by rw[<- hf];simp
  have lf:fs.length < full.length:=by
   have:=congrArg List.length hf;simp only[qj,List.length_map,xY] at this;omega
  have tk:full.take fs.length=fs.map (·.1):=by
   rw[<- hf,List.take_append_of_le_length (by rw[List.length_map];exact le_refl _),List.take_of_length_le (by rw[List.length_map];exact le_refl _)]
  have nn:zEJ fs=false/\mutF fs=false:=by
   unfold zNw at hp;have:=all_eq_true.mp hp fs.length (mem_range.mpr lf);rw[tk,x8,Bool.not_eq_true',Bool.not_eq_true'] at this;exact this
  have ndn:=nn.1;have hx2:H2 x=some (.ins C dx fs):=zBh _ _ (k2 _ _ (zHn hx nn.2));have nx2:x∉(α0++(Z++Z2)).map (·.1):=by
   rw[<- qJ];exact c2.out hx2 (zCn.mp (zHn hx2 nn.2)).2
  have nf:f∉fs.map (·.1):=by
   rw[<- hf] at nd;have:=(List.nodup_append.mp nd).2.2;exact λm=>this f m f (by simp) rfl
  refine⟨hx2,cl,na f mf,by omega,?_⟩;have up:zCq (fzH H2) (fzH (upd H2 x (.ins C dx (putF f v fs)))):=zPo hx2 ndn;have tr:∀ {ws:List W} {us:List V},DenWL X.K H2 (α0++Z++Z2) ws us->DenWL X.K (upd H2 x (.ins C dx (putF f v fs))) (α0++(Z++Z2)) ws us:=λ{ws us} q=>by
   have:=q.monoF up [];rw[append_nil,qJ] at this;exact this
  refine⟨Z++Z2,w.2,putF f v fs,vs++[v],acc++[w.1],z',rfl,zAX,nx2,λb o q=>?_,?_,?_,?_,?_,ez,λZ' H' fs' vs' a0 a1 a2 a3 a4 a5 a6=>fin Z' H' fs' vs' a0 a1 a2 a3 a4 a5 (by simpa using a6)⟩
  .have q2:=k2 _ _ (k1 _ _ q);have ne:b≠x:=λz=>by
    rw[z] at q;have:=zBh _ _ q;rw[n1] at this;cases this
   obtain⟨g1,g2⟩:=zCn.mp q2;exact zCn.mpr ⟨by rw[zAN ne];exact g1,g2⟩
  .rw [<- qJ];exact c2.updI hx2 ndn nn.2
  .rw [zFI nf,xJ,qJ];exact hf
  .have e1:(putF f v fs).map (·.1)=fs.map (·.1)++[f]:=by rw[zFI nf,xJ];rfl
   rw[e1,xJ,xJ,<- hv];congr 1
   .refine List.map_congr_left λn hn=>?_
    rw[zCR,if_neg (λz=>nf (by rw[<- z];exact hn))]
   .show [(putF f v fs).lookup f]=[some v];rw[zCR,if_pos rfl]
  .exact tr ((da.mono k2 Z2).append (.cons dv .nil))
noncomputable def zHH (sc:Scope)(N bs:List Str)(y:Str):List (Str×ME)->List Stmt->Bool
 | [],[]=>true
 | (f,m)::L,s::r=>(zCQ s λz1 v _=>on1 z1 λz2=>zAd z2 λo f' _=>zAg o λy' _=>decide (y'=y)&&decide (f'=f)&&cM m sc N bs v)&&zHH sc N bs y L r
 | _,_=>false
section
variable {P:Program}{w:World}{K:W.Frag}{mg:Str->Option Value}{base:Heap}{k:Nat}{J:Gm}{Y:Dm}{bs:List Str}
theorem zH5 (o:XOkM X k J Y bs):∀ {L:List (Str×ME)} {sts:List Stmt},zHH X.env.scope X.N bs y L sts=true->zEU X y sts (L.map λp=>(p.1,evM J Y p.2))
 | [],[],_=>.nil
 | [],_::_,h=>(zzf h)
 | _::_,[],h=>(zzf h)
 | (f,m)::L,s::r,h=>by
  unfold zHH at h;rw[x8] at h;obtain⟨h,h2⟩:=h;obtain⟨z1,_,_,rfl,hq1⟩:=zBZ h;obtain⟨z2,rfl,hq2⟩:=zAo hq1;obtain⟨_,_,_,rfl,hq3⟩:=zAQ hq2;obtain⟨_,_,rfl,hq4⟩:=zAH hq3;simp only[x8,qy] at hq4;obtain⟨⟨rfl,rfl⟩,h4⟩:=hq4;exact .cons ((zAz o m).e _ h4) (zH5 o h2)
theorem zIo:∀ {fs:List (Str×V)},(fs.map (·.1)).Nodup->((fs.map (·.1)).map λn=>fs.lookup n)=(fs.map (·.2)).map some
 | [],_=>rfl
 | (n,v)::r,h=>by
  rw[map_cons,nodup_cons] at h;rw[map_cons,map_cons,map_cons,map_cons,<- zIo h.2];congr 1
  .show (match n==n with | true=>some v | false=>r.lookup n)=_;rw[beq_self_eq_true]
  .refine List.map_congr_left λm hm=>?_
   rw[lookup_cons];have:(m==n)=false:=beq_eq_false_iff_ne.mpr λz=>h.1 (z▸hm)
   rw[this]
theorem zGw {f C:Addr}{qual c y:Str}{st:Stmt}{dV kV doc pm cdv ct oc:Value}{an od:Option Addr}{osl:Array (Option Value)}{ys:List Str}{L:List (Str×ME)}(lk:K.lookup f=some ⟨oc,od,.func (W.fnOf "__init__" qual (zAp st) (zAK st) (zAA st) dV kV doc pm an cdv ct),osl⟩)
  (hcd:W.codeIn K cdv qual=true) (S:zAq (y::ys) (y::ys) (zAA st)) (vy:visB (zAA st) y=true) (oy:okN y=true) (ck:zHH (zAA st) (y::ys) bs y L (zAK st)=true) (g:GOk P w K mg base k J bs) (d:DmOk P w K mg base k Y)
  (cn:zB0 K c C) (cl:Cls K C) (na:∀ n∈L.map (·.1),zBT K C n) (nd:(L.map (·.1)).Nodup) (hp:zNw (L.map (·.1))=true) (hdn:zKi (L.map (·.1))=true\/mutK (L.map (·.1))=true) (hl:(L.map (·.1)).length<=100) :
  FnOk P w K mg base CX0 (k+1) f (W.fnOf "__init__" qual (zAp st) (zAK st) (zAA st) dV kV doc pm an cdv ct) (y::ys) (spI K C (zEZ c ys.length (L.map λp=>(p.1,evM J Y p.2)))):=by
 have names:(L.map λp=>(p.1,evM J Y p.2)).map (·.1)=L.map (·.1):=by rw[map_map];rfl
 refine zRm lk hcd S (λvs H Q E h=>?_) λA outer s H vs Q E hr h=>?_
 .obtain ⟨x,dx,H1,us,U,G,ws,r,rfl,_,_,_,_,_,dw,hF,_⟩:=h;unfold zEZ at hF;by_cases q:ws.length=ys.length
  .rw [xY,<- dw.length,q];rfl
  .rw [if_neg q] at hF;cases hF
 obtain⟨x,dx,H1,us,U,G,ws,r,rfl,n1,n2,n3,rfl,cc,dw,hF,fin⟩:=h;unfold zEZ at hF;have q:ws.length=ys.length:=Classical.byContradiction λz=>by rw[if_neg z] at hF;cases hF
 rw[if_pos q] at hF;obtain⟨z,ez,e3⟩:=x9.mp hF;subst e3;have o:XOkM (cxOf CX0 P w K mg base (y::ys) qual (zAA st) f cdv A outer s (upd (upd H1 dx (.own x)) x (.ins C dx [])) E).nox k J Y bs:=⟨⟨g,hr,rfl,S.nd,PassesOwn.never⟩,d⟩;have st0:L2.zCL (y::ys) (.ref x::us)=some (.ref x)::us.map some:=by
  unfold L2.zCL;have:(y::ys).length - (V.ref x::us).length=0:=by rw[xY,xY,<- dw.length,q];omega
  rw[this];simp
 refine⟨_,PSs.nox (zLl (σ0:=L2.zCL (y::ys) (.ref x::us)) (O:=none::ws.map some) (α0:=U) (H1:=H1) (x:=x) (dx:=dx) cl na nd hp hl n1 rfl (zE7 vy) oy (by rw[st0];rfl) (by rw[st0,xY,xY,List.length_map,List.length_map,dw.length]) (λi w e=>?_) (zH5 o ck)),?_⟩
 .cases i with
  | zero=>cases e
  | succ i =>
   have e':(ws.map some)[i]?=some (some w):=e;rw[getElem?_map] at e';obtain⟨w',e1,e2⟩:=x9.mp e';cases e2;obtain⟨v,q1,q2⟩:=dw.get e1;refine⟨v,?_,q2⟩;rw[st0];show (us.map some)[i]?=_;rw[getElem?_map,q1];rfl
 .have sm:Same H1 (upd (upd H1 dx (.own x)) x (.ins C dx [])):=(zAf n2 _).trans (zAf (by rw[zAN (Ne.symm n3)];exact n1) _);refine⟨[],G,[],[],[],z,rfl,zAX,by rw[append_nil];exact cc.outN n1,zBB sm,by rw[append_nil];exact cc.same sm,names,rfl,.nil,ez,λZ' H' fs' vs' a0 a1 a2 a3 a4 a5 a6=>?_⟩;rw[names] at fin;by_cases mu:mutK (L.map (·.1))=true
  .have er:mkR c (L.map (·.1)) z=(.ob c (L.map (·.1)) z.2.length,z.2++[z.1]):=if_pos mu;rw[er] at fin;have ev:vs'=fs'.map (·.2):=by
    rw[<- a4,zIo (by rw[a4];exact nd)] at a5;exact(List.map_inj_right (λ_ _ z=>xj z)).mp a5.symm
   rw[ev] at a6;have em:mutF fs'=true:=by unfold mutF;rw[a4];exact mu
   have a7:DenWL K H' (U++Z'++[(x,.ins c (L.map (·.1)))]) z.1 (fs'.map (·.2)):=a6.mono (Kp.refl H') _;refine fin H' (Z'++[(x,.ins c (L.map (·.1)))]) a1 ?_ ?_
   .rw [<- qJ];exact a2.more a0 ⟨C,dx,fs',a3,em,cn,a4,a7⟩
   .rw [DenW,<- qJ];exact⟨x,by rw[getElem?_append_right (by rw[a2.len];omega),a2.len,sub_self];rfl,rfl⟩
  .have er:mkR c (L.map (·.1)) z=(.obj c (L.map (·.1)) z.1,z.2):=if_neg mu;rw[er] at fin;have hdn:=hdn.resolve_right mu;have hd:zEJ fs'=true:=by unfold zEJ;rw[a4];exact hdn
   refine fin H' Z' a1 a2 ?_;rw[DenW];exact⟨x,vs',rfl,⟨C,dx,fs',zHn a3 (zHw hd),hd,cn,a5⟩,a6⟩
theorem zEL (hd:fd.defaults=.ref T)(lk:K.lookup T=some ⟨oc,od,.seq #[.none] n,sl⟩)(KX:K.In s.heap)
  (O8:bindArgs fd args=seqItems? fd.defaults>>=kk) (Y4:kk (some #[.none])=pure binds):BindsTo s fd args binds:=.of_defaults hd (KX _ _ lk) rfl O8 Y4
theorem DmOk.addC (d:DmOk P w K mg base k Y)(hj:j < k)(hx:spec.lookup x=some (.mk c kw))(m:mg c=some (.ref C))(M:Mk K C f)(FO:FnOk P w K mg base CX0 j f fd ps (spI K C F))(b1:zBb K fd ps [])(b2:zBb K fd ps [.none])(b3:KB K fd ps kw) :
  DmOk P w K mg base k (Y.add x F):=d.one (le_refl k) (by rw[hx];exact⟨j,C,f,fd,ps,hj,m,M,FO,b1,b2,b3⟩)
end
theorem zEN :∀ (names:List (Str×NameKind)) (acc:List (Str×Addr)),(∀ p∈names,p.2=.free->∃ c,cs.lookup p.1=some c) ->
  ∃ cl,clos names cs acc=some cl/\cl.map (·.1)=((names.filter λp=>p.2==.free).map (·.1)).reverse++acc.map (·.1)/\∀ p∈cl,p∈acc\/cs.lookup p.1=some p.2
 | [],acc,_=>⟨acc,rfl,by simp,λp hp=>.inl hp⟩
 | (x,k)::names,acc,h=>by
  unfold clos;by_cases e:(k==NameKind.free)=true
  .obtain ⟨c,ec⟩:=h (x,k) q8 (eq_of_beq e);obtain⟨cl,h1,h2,h3⟩:=zEN names ((x,c)::acc) λp hp=>h p (qY _ hp)
   dsimp only at ec;rw[if_pos e,ec];refine⟨cl,h1,?_,λp hp=>?_⟩
   .rw [h2,filter_cons];simp[e]
   .rcases h3 p hp with z | z
    .rcases mem_cons.mp z with z | z
     .right;rw[z];exact ec
     .exact .inl z
    .exact .inr z
  .obtain ⟨cl,h1,h2,h3⟩:=zEN names acc λp hp=>h p (qY _ hp)
   rw[if_neg e];refine⟨cl,h1,?_,h3⟩;rw[h2,filter_cons];simp[e]
theorem zFr {cs:List (Str×Addr)}(inj:∀ x y c,cs.lookup x=some c->cs.lookup y=some c->x=y):∀ {cl:List (Str×Addr)},(∀ p∈cl,cs.lookup p.1=some p.2)->(cl.map (·.1)).Nodup->(cl.map (·.2)).Nodup
 | [],_,_=>by simp
 | p::cl,h,nd=>by
  rw[map_cons,nodup_cons] at nd ⊢;refine⟨λz=>?_,zFr inj (λq hq=>h q (qY _ hq)) nd.2⟩;obtain⟨q,hq,e⟩:=mem_map.mp z;have h1:=h p q8;have h2:=h q (qY _ hq);rw[e] at h2;exact nd.1 (mem_map.mpr ⟨q,hq,inj _ _ _ h2 h1⟩)
noncomputable def capD:List Nat->List (Option W)->Option (List D)
 | [],_=>some []
 | i::ix,O=>(match O[i]? with
  | some (some (.dat d))=>some d
  | some (some (.obj c ns l))=>some (dobj c ns l)
  | _=>none).bind λd=>(capD ix O).bind λds=>some (d::ds)
noncomputable def lamE (Fg:MF)(j:Nat)(L:LamI)(ix:List Nat)(ge:Mst->Option MR):Mst->Option MR:=λs=>(ge s).bind λw=>(capD ix s.O).bind λds=>if noLs ds=true then Fg [w.1,.dat (.lam j L ds)] w.2 else none
noncomputable def lamM (Fg:MF)(j:Nat)(L:LamI)(ix:List Nat)(np nN:Nat)(gp:Mst->Option OutM)(ge:Mst->Option MR):MF:=zBE np nN λs=>(gp s).bind λo=>match o with
 | .nx s'=>retM (lamE Fg j L ix ge) s'
 | _=>none
theorem zNb {K:W.Frag}(ms:MS K H U G B O):∀ {ix:List Nat} {ds:List D},capD ix O=some ds->∃ us,DenL K (fzH H) ds us/\us.length=ix.length/\∀ (k i:Nat),ix[k]?=some i->∃ v,us[k]?=some v/\B[i]?=some (some v)
 | [],ds,e=>by
  cases e;exact⟨[],.nil,rfl,λk i z=>by simp at z⟩
 | i::ix,ds,e=>by
  unfold capD at e;obtain⟨d,e0,e⟩:=bind_some e;obtain⟨ds',e1,e⟩:=bind_some e;cases e;obtain⟨us,h1,h2,h3⟩:=zNb ms e1;have hv:∃ v,B[i]?=some (some v)/\Den K (fzH H) d v:=by
   split at e0
   .rename_i d' q;cases e0;obtain⟨v,g1,g2⟩:=ms.get i _ q;rw[DenW] at g2;exact⟨v,g1,g2⟩
   .rename_i c ns l q;cases e0;obtain⟨v,g1,g2⟩:=ms.get i _ q;exact⟨v,g1,zHx g2⟩
   .cases e0
  obtain⟨v,g1,g2⟩:=hv;refine⟨v::us,.cons g2 h1,by rw[xY,xY,h2],λk i' z=>?_⟩;cases k with
  | zero =>
   have:i=i':=by simpa using z
   subst this;exact⟨v,rfl,g1⟩
  | succ k=>exact h3 k i' (by simpa using z)
theorem zFz {U Z:Type}{R:U->Z->Prop}:∀ {l:List U} {m:List Z},l.length=m.length->(∀ (k:Nat) a b,l[k]?=some a->m[k]?=some b->R a b)->Paired R l m
 | [],[],_,_=>.nil
 | [],_::_,e,_=>by simp at e
 | _::_,[],e,_=>by simp at e
 | a::l,b::m,e,h=>.cons (h 0 a b (by simp) (by simp)) (zFz (by simpa using e) λk a' b' q1 q2=>h (k+1) a' b' (by simpa using q1) (by simpa using q2))
noncomputable def zFM (H:Hp)(h:Heap)(S:List Addr):Hp:=λb=>if b∈S then (h.get? b).map (λo=>.frz o anyU) else H b
section
variable {X:Cx}{pins:List (Addr×Obj)}{B:St}{H:Hp}{s:Shared}
theorem zMP (I:Inv X pins B H s){S:List Addr}(hS:∀ b∈S,∃ y,X.env.cells.lookup y=some b)(hfn:∀ y,X.fn y=true) :
  Same H (zFM H s.heap S)/\(∀ b∈S,∃ o v,zFM H s.heap S b=some (.frz o anyU)/\s.heap.get? b=some o/\o.data=.cell v)/\(∀ b,b∉S->zFM H s.heap S b=H b)/\(∀ b∈S,X.s0.heap.objs.size<=b)/\Env0 X.prog X.w X.K X.mg X.base X.A X.stack s (zFM H s.heap S):=by
 have out:∀ {b:Addr},b∉S->zFM H s.heap S b=H b:=λz=>if_neg z
 have free:=λ{b} z=>let ⟨y,e⟩:=hS b z;I.freeC y b e
 have nS:∀ {b:Addr} {u:HO},H b=some u->b∉S:=λ{b u} e z=>by rw[free z] at e;cases e
 have sm:Same H (zFM H s.heap S):=λb u e=>by rw[out (nS e)];exact e
 have inn:∀ b∈S,∃ o v,zFM H s.heap S b=some (.frz o anyU)/\s.heap.get? b=some o/\o.data=.cell v:=λb z=>by
  obtain⟨y,e⟩:=hS b z;obtain⟨v,o,ho,hd⟩:=I.cell y b e;refine⟨o,v,?_,ho,hd⟩;unfold zFM;rw[if_pos z,ho]
  rfl
 have big:=λb z=>let ⟨y,e⟩:=hS b z;I.ok.cab y b (hfn y) e
 have e0:=I.env0;refine⟨sm,inn,λb z=>out z,big,⟨e0.frames,e0.mod,λb o e=>⟨(e0.bs b o e).1,?_⟩,e0.bsz,e0.funs,λb z=>?_,λb u e=>?_,e0.bare,e0.tree,λx hx c P e=>sm _ _ (e0.tabs x hx c P e)⟩⟩
 .have nb:b∉S:=λz=>absurd (lt_size e) (Nat.not_lt.mpr (le_trans I.ok.bsz (big b z)))
  rw[out nb];exact(e0.bs b o e).2
 .have nb:b∉S:=λz2=>by
   rcases mem_cons.mp (I.stkSub b z) with q | q
   .obtain ⟨y,e⟩:=hS b z2;exact I.cne y b e q
   .obtain ⟨_,o,ho,_⟩:=I.ok.funs.mem q;exact absurd (lt_size ho) (Nat.not_lt.mpr (big b z2))
  rw[out nb];exact e0.frf b z
 .by_cases z:b∈S
  .obtain ⟨o,v,q1,q2,_⟩:=inn b z;rw[q1] at e;cases e;exact zEF q2
  .rw [out z] at e;exact(I.hok b u e).stay (λ_ _ _ q=>q) (λ_ q=>sm _ _ q) (λ_ _ q=>sm _ _ q) λ_ _ _ q _=>sm _ _ q
end
theorem zNe {S:List Addr}(u1:Un fs [] H H1 h h1)(big:∀ b∈S,h.objs.size<=b)(hL:h.objs.size<=L)(sm:Same H1 H2)(out:∀ b,b∉S->H2 b=H1 b)(u2:Un (L::fs) [] H2 H' h1 h'):Un fs [] H H' h h':=by
 have nS:∀ {b:Addr} {o:Obj},h.get? b=some o->b∉S:=λ{b o} e z=>absurd (lt_size e) (Nat.not_lt.mpr (big b z))
 have nL:∀ {b:Addr} {o:Obj},h.get? b=some o->b≠L:=λ{b o} e z=>absurd (lt_size e) (Nat.not_lt.mpr (by simp_all))
 have no:∀ {b:Addr} {o:Obj},h.get? b=some o->H b=none->H2 b=none:=λ{b o} e n=>by rw[out b (nS e)];exact u1.free b o e n (by simp)
 refine⟨λb o e n hb hx=>u2.keep b o (u1.keep b o e n hb hx) (no e n) (λz=>(mem_cons.mp z).elim (nL e) hb) hx,λb o e n hb hx=>?_,λb o e n hx=>?_,λb o e hx=>?_,λb xs e=>u2.tups b xs (sm _ _ (u1.tups b xs e)),λb o u e=>u2.frzs b o u (sm _ _ (u1.frzs b o u e)),λb q e=>u2.tbls b q (sm _ _ (u1.tbls b q e))⟩
 .obtain ⟨sl,e1⟩:=u1.slot b o e n hb hx;obtain⟨sl2,e2⟩:=u2.slot b _ e1 (no e n) (qY _ hb) hx;exact⟨sl2,e2⟩
 .obtain ⟨o1,e1⟩:=u1.there b o e hx;exact u2.free b o1 e1 (no e n) hx
 .obtain ⟨o1,e1⟩:=u1.there b o e hx;exact u2.there b o1 e1 hx
structure zE4 (K:W.Frag)(x:Str)(st:Stmt)(f:Addr)(N:List Str)(pre:List Stmt)(e:Expr)(g:Str)(L:LamI)(ix:List Nat):Prop where
 body:∃ q1 lp cp rp,zAK st=pre++[.Return (some (.Call (.Name g q1) [e,.Lambda L.params L.body L.scope lp] [] cp)) rp]
 star:zAc e=true
 qual:L.qual=x ++ ".<locals>." ++ "<lambda>"
 lam:x∈zCB
 fnq:zG3 K x=some f
 tab:∃ c P,tabQ K x=some (c,P)
 gl:glB (zAA st) g=true
 okg:okN g=true
 dflt:∀ env,defaultsOf L.params env=([],[])
 nd:(frN L).Nodup
 len:ix.length=(frN L).length
 cap:∀ (k:Nat) y,(frN L)[k]?=some y->∃ i,ix[k]?=some i/\N[i]?=some y/\(zAA st).names.lookup y=some .cell
 free:∀ p∈L.scope.names,p.2=.free->p.1∈frN L
theorem PS.nox {st:Stmt}(h:PS X.nox st t):PS X st t:=λpins s B H D I hw =>
 wpAny_mono (h pins s B H D (I.wish _) hw) (λ_ _ q=>q.unwish) λ_ _ z=>False.elim z
theorem zOR {K:W.Frag}{st:Stmt}(F:Fun K nm x st f fd)(sc:zAq N ps (zAA st))(LD:zE4 K x st f N pre e g L ix)
  (hpre:(pre=[]/\gp=λs=>some (.nx s))\/∃ s1,pre=[s1]/\∀ cdv A outer s H E,Room k (A.deeper (envOfC x (zAA st) s.heap.objs.size f cdv))->GSM (cxOf CX0 P w K mg base N x (zAA st) f cdv A outer s H E).nox s1 gp)
  (he:∀ cdv A outer s H E,Room k (A.deeper (envOfC x (zAA st) s.heap.objs.size f cdv))->GM (cxOf CX0 P w K mg base N x (zAA st) f cdv A outer s H E).nox e ge)
  (gg:FnOk P w K mg base CX0 k fg fdg psg (spM K Fg)) (mgg:mg g=some (.ref fg)) (kg:W.keepIn K (.ref fg)=true) (bg:zBb K fdg psg []):FnOk P w K mg base CX0 (k+1) f fd ps (spM K (lamM Fg j L ix ps.length N.length gp ge)):=by
 obtain⟨oc,od,kV,doc,pm,an,cdv,ct,osl,rfl,lk,hcd⟩:=F.ex;have lenS:∀ vs H Q E,spM K (lamM Fg j L ix ps.length N.length gp ge) vs H Q E->vs.length=ps.length:=λvs H Q E h=>by
  obtain⟨U,G,ws,r,c,d,hF,n⟩:=h;unfold lamM zBE at hF;by_cases q:ws.length=ps.length/\ps.length<=N.length
  .rw [<- d.length];exact q.1
  .rw [if_neg q] at hF;cases hF
 refine⟨lenS,λA outer s H args us vs Q E hr e0 hb r hsp=>?_⟩;have hl:=lenS _ _ _ _ hsp;have KX:K.In s.heap:=e0.mod.kin.keeps λb o e=>(e0.bs b o e).1
 have lim:s.heap.NoLimit:=e0.mod.nolimit.keeps λb o e=>(e0.bs b o e).1
 have hkind:∀ y∈ps.zip us,(zAA st).names.lookup y.1=some .local\/((zAA st).names.lookup y.1=some .cell/\((cellsFrom (s.heap.objs.size+1) (zAA st).names []).lookup y.1).isSome=true):=λzz134 hy=>by
  obtain⟨n,v⟩:=zz134;rcases sc.par n (of_mem_zip hy).1 with q | q
  .exact .inl q
  .exact .inr ⟨q,W.cellsFrom_some _ _ _ (.inl q)⟩
 refine codeAny_call_function hr.depth (KX _ _ lk) rfl sc.co sc.gen rfl (W.codeRec_of KX hcd) (hb _ _ _ _ ?_);refine wpAny_newFunctionEnv_cells sc.kind hkind λenv he' s1 xx=>?_
 subst he';refine⟨lim.keeps xx.toInCall.keep,codeAny_func ?_⟩;have I:Inv (cxOf CX0 P w K mg base N x (zAA st) f cdv A outer s H E) [] (zCL N vs) H s1:=zGD sc hr.hd (by have:=hr.dp;show A.depth+1+100 < _;omega) e0 hl r xx;have hr2:Room k (cxOf CX0 P w K mg base N x (zAA st) f cdv A outer s H E).A:=hr.deeper _;obtain⟨q1,lp,cp,rp,eb⟩:=LD.body;obtain⟨U,G,ws,rr,cc,dw,hF,fin⟩:=hsp;unfold lamM zBE at hF;have hq:ws.length=ps.length/\ps.length<=N.length:=Classical.byContradiction λz=>by rw[if_neg z] at hF;cases hF
 rw[if_pos hq] at hF;obtain⟨o,eo,hF⟩:=bind_some hF;obtain⟨o1,eo1,eo2⟩:=bind_some (show ((gp _).bind _)=some o from eo);have ms0:MS K H U G (zCL N vs) (ws.map some++List.replicate (N.length - ps.length) none):=by
  have:=zHe (N:=N) cc dw (by rw[hq.1];exact hq.2);rwa [hq.1] at this
 obtain⟨c0,P0,etab⟩:=LD.tab;have ecode:cdv=.ref c0:=zIr etab LD.fnq lk;have key:∀ (sa:Mst) (s1:Shared) (B1:St) (H1:Hp) (Z1:List CA),Inv (cxOf CX0 P w K mg base N x (zAA st) f cdv A outer s H E) [] B1 H1 s1->MS K H1 (U++Z1) sa.G B1 sa.O->Kp H H1->lamE Fg j L ix ge sa=some rr ->
   wpAny (model P w) (cxOf CX0 P w K mg base N x (zAA st) f cdv A outer s H E).A (eval (.Call (.Name g q1) [e,.Lambda L.params L.body L.scope lp] [] cp) (cxOf CX0 P w K mg base N x (zAA st) f cdv A outer s H E).env) (λu s'=>CE outer P w H s Q u s') (cxOf CX0 P w K mg base N x (zAA st) f cdv A outer s H E).xe s1:=by
  intro sa s1 B1 H1 Z1 I ms kp1 hE;obtain⟨wv,ew,hE⟩:=bind_some hE;obtain⟨ds,ecap,hE⟩:=bind_some hE;have nls:noLs ds=true:=Classical.byContradiction λz=>by rw[if_neg z] at hE;cases hE
  rw[if_pos nls] at hE;obtain⟨cvs,dcap,lcap,gcap⟩:=zNb ms ecap;refine wpAny_Call_Name_kw (zD8 I (zEq LD.gl) mgg ?_ (zCj LD.okg).1);refine W.callWith_K (h₀:=base) I.ok.mod.kin kg ?_ (zAD LD.star) rfl;rw[zAD LD.star];show wpAny _ _ (spliced ((false,eval e _)::backTo cp (starEach [.Lambda L.params L.body L.scope lp] _))) _ _ s1;refine Calls.spliced_cons (thn (PE.nox (he cdv A outer s H E hr2) [] s1 B1 H1 (λy H2=>∃ Z2,Kp H1 H2/\zAG K H2 (U++Z1++Z2) wv.2/\DenW K H2 (U++Z1++Z2) wv.1 y) I ⟨U++Z1,sa.O,sa.G,wv,ms,ew,λv H2 Z2 k2 c2 d2=>⟨Z2,k2,c2,d2⟩⟩) λu0 s2 zz135=>?_);obtain⟨y,H2,I1,r1,Z2,kp2,c2,dy⟩:=zz135;have kc:∀ {y:Str},y∈frN L->(zAA st).names.lookup y=some .cell:=λ{y} my=>by
   obtain⟨kk,hk,e⟩:=List.getElem_of_mem my;obtain⟨_,_,_,q⟩:=LD.cap kk y (by rw[getElem?_eq_getElem hk,e]);exact q
  obtain⟨cl,hcl,hcn,hcm⟩:=zEN (cs:=(cxOf CX0 P w K mg base N x (zAA st) f cdv A outer s H E).env.cells) L.scope.names [] λp hp hf=>I1.ok.has p.1 (.inl (kc (LD.free p hp hf)))
  have hcn':cl.map (·.1)=frN L:=by rw[hcn];unfold frN;simp
  have hcm':∀ p∈cl,(cxOf CX0 P w K mg base N x (zAA st) f cdv A outer s H E).env.cells.lookup p.1=some p.2:=λp hp=>(hcm p hp).elim (λz=>absurd z (by simp)) id
  have hcd2:(cl.map (·.2)).Nodup:=zFr I1.ok.inj hcm' (by rw[hcn'];exact LD.nd);show wpAny _ _ (spliced ((false,eval (.Lambda L.params L.body L.scope lp) _)::backTo cp (starEach [] _))) _ _ s2;refine Calls.spliced_cons (zLj I1 (LD.dflt _) hcl ecode (e0.mod.codes x LD.lam c0 P0 etab) (I1.tabs x LD.lam c0 P0 etab) λf' c' ctv pm' oc' u1 H3 s3 sm nf hf hc' co I2=>?_);refine Calls.spliced_nil ⟨I2.kIn,?_⟩;have hS:∀ b∈cl.map (·.2),∃ y,(cxOf CX0 P w K mg base N x (zAA st) f cdv A outer s H E).env.cells.lookup y=some b:=λb z=>by
   obtain⟨p,hp,rfl⟩:=mem_map.mp z;exact⟨p.1,hcm' p hp⟩
  obtain⟨sm2,inn,out,big,e2⟩:=zMP I2 hS λ_=>rfl
  obtain⟨H4,eH4⟩:∃ H4:Hp,H4=zFM H3 s3.heap (cl.map (·.2)):=⟨_,rfl⟩;rw[<- eH4] at sm2 inn out e2;have sm3:Same H2 H4:=sm.trans sm2;have cells:zBl H4 cl cvs:=by
   have lc:cl.length=cvs.length:=by
    have:=congrArg List.length hcn';rw[List.length_map] at this;rw[lcap,LD.len,this]
   refine zFz lc λkk p v' g1 g2=>?_
   have gy:(frN L)[kk]?=some p.1:=by rw[<- hcn',getElem?_map,g1];rfl
   obtain⟨i,ei,epi,eki⟩:=LD.cap kk p.1 gy;obtain⟨v2,gv,st2⟩:=gcap kk i ei;rw[g2] at gv;cases gv;obtain⟨mm,hn,hloc⟩:=I2.loc;obtain⟨uu,ru,lo⟩:=hloc i p.1 v' epi st2 (.inr (.inl eki));obtain⟨o,vv',k1,k2,k3⟩:=inn p.2 (mem_map.mpr ⟨p,mem_of_getElem? g1,rfl⟩);rcases lo with ⟨q,_⟩ | ⟨_,c2,e1,o2,ho2,hd2⟩
   .have q':(zAA st).names.lookup p.1=some .local:=q;rw[eki] at q';cases q'
   .rw [hcm' p (mem_of_getElem? g1)] at e1;cases e1;rw[k2] at ho2;cases ho2;exact⟨o,uu,k1,hd2,ru⟩
  have la:zDn H4 L f' cvs:=⟨cl,pm',c',ctv,oc',u1,by rw[LD.qual];exact sm2 _ _ hf,sm2 _ _ hc',by rw[LD.qual];exact co,hcn',hcd2,cells⟩;have dl:DenW K H4 (U++Z1++Z2) (.dat (.lam j L ds)) (.ref f'):=by
   rw[DenW];refine Den.fz (by rw[noL];exact nls) ?_;rw[Den];exact⟨f',cvs,rfl,la,dcap.mono (Same.trans kp2 (zBh.trans sm3))⟩
  have ru0:Vals [y,.ref f'] [u0,.ref f']:=.cons r1 (.cons rfl .nil);have dwl:DenWL K H4 (U++Z1++Z2) [wv.1,.dat (.lam j L ds)] [y,.ref f']:=.cons (dy.keep (zBB sm3)) (.cons dl .nil);have sp':spM K Fg [y,.ref f'] H4 Q E:=⟨U++Z1++Z2,wv.2,_,rr,c2.same sm3,dwl,hE,λv H' Z k3 c3 d3=>fin v H' (Z1++(Z2++Z)) (Same.trans kp1 (Same.trans kp2 (Same.trans (zBB sm3) k3))) (by rw[<- qJ,<- qJ];exact c3) (by rw[<- qJ,<- qJ];exact d3)⟩;have hl2:([u0,.ref f']:List Value).length=psg.length:=by rw[<- ru0.length];exact gg.len _ _ _ _ sp'
  have bt:=bg s3 [u0,.ref f'] I2.kIn (by simpa using hl2);refine wpAny_call (codeAny_mono (gg.run _ _ s3 H4 _ _ _ Q E hr2 e2 bt (by simpa using ru0) sp') λr' s' hq=>?_);cases r' with
  | error e=>exact hq.elim
  | ok fl =>
   cases fl with
   | ret u =>
    obtain⟨v,H',os,bare,un,hok',rv,q⟩:=hq;exact⟨v,H',os.trans I2.os,bare,zNe I2.base big (le_refl _) sm2 out un,hok',rv,q⟩
   | next=>exact False.elim hq
   | brk=>exact False.elim hq
   | cont=>exact False.elim hq
 have last:∀ (sa:Mst) (s1:Shared) (B1:St) (H1:Hp) (Z1:List CA),Inv (cxOf CX0 P w K mg base N x (zAA st) f cdv A outer s H E) [] B1 H1 s1->MS K H1 (U++Z1) sa.G B1 sa.O->Kp H H1->retM (lamE Fg j L ix ge) sa=some o ->
   wpAny (model P w) (cxOf CX0 P w K mg base N x (zAA st) f cdv A outer s H E).A (execs [.Return (some (.Call (.Name g q1) [e,.Lambda L.params L.body L.scope lp] [] cp)) rp] (cxOf CX0 P w K mg base N x (zAA st) f cdv A outer s H E).env) (λfl s'=>∃ u,fl=.ret u/\CE outer P w H s Q u s') (cxOf CX0 P w K mg base N x (zAA st) f cdv A outer s H E).xe s1:=by
  intro sa s1 B1 H1 Z1 I ms kp1 hE;obtain⟨r1,er,hE⟩:=bind_some hE;cases hE;cases hF;refine wpAny_execs_cons (wpAny_Return_some (thn (key sa s1 B1 H1 Z1 I ms kp1 er) λu s' h=>?_));exact⟨u,rfl,h⟩
 have hex:wpAny (model P w) (cxOf CX0 P w K mg base N x (zAA st) f cdv A outer s H E).A (execs (zAK st) (cxOf CX0 P w K mg base N x (zAA st) f cdv A outer s H E).env) (λfl s'=>∃ u,fl=.ret u/\CE outer P w H s Q u s') (cxOf CX0 P w K mg base N x (zAA st) f cdv A outer s H E).xe s1:=by
  rw[eb];rcases hpre with ⟨rfl,rfl⟩ | ⟨st1,rfl,hs1⟩
  .cases eo1;exact last _ s1 _ H [] I (by rw[append_nil];exact ms0) (Kp.refl H) eo2
  .show wpAny _ _ (execs (st1::[_]) _) _ _ s1;have hb1:=PS.nox (hs1 cdv A outer s H E hr2 H U) [] s1 (zCL N vs) H { nx:=λB1 H1=>∃ sa Z1,MS K H1 (U++Z1) sa.G B1 sa.O/\Kp H H1/\retM (lamE Fg j L ix ge) sa=some o,rt:=λ_ _=>False } I ⟨[],⟨_,G⟩,o1,by rw[append_nil];exact ms0,Kp.refl H,eo1,by
    cases o1 with
    | nx sa=>exact λZ1 B1 H1 m k=>⟨sa,Z1,m,k,eo2⟩
    | rt r1=>cases eo2
    | bk _=>cases eo2
    | ct _=>cases eo2⟩
   refine wpAny_execs_cons (thn hb1 λfl s2 q=>?_);cases fl with
   | next =>
    obtain⟨B1,H1,I1,sa,Z1,m,k,e⟩:=q;exact last sa s2 B1 H1 Z1 I1 m k e
   | brk=>obtain⟨_,_,_,q⟩:=q;exact q.elim
   | cont=>obtain⟨_,_,_,q⟩:=q;exact q.elim
   | ret u=>obtain⟨_,_,_,_,_,q⟩:=q;exact q.elim
 refine wpAny_mono hex (λfl s' zz136=>?_) λe s' hs=>hs
 obtain⟨u,e,h⟩:=zz136;subst e;exact h
noncomputable def zSj (x:Str)(s:Stmt):LamI:=match s with
 | .Return (some (.Call _ [_,.Lambda a b c _] _ _)) _=>⟨x ++ ".<locals>." ++ "<lambda>",a,b,c⟩
 | s=>⟨x,zAp s,.Name x ⟨0,0,0,0⟩,zAA s⟩
noncomputable def zQs (x:Str)(st:Stmt):LamI:=zSj x ((zAK st).getLast?.getD (.Pass ⟨0,0,0,0⟩))
noncomputable def zHi (st:Stmt):Expr:=match (zAK st).getLast?.getD (.Pass ⟨0,0,0,0⟩) with
 | .Return (some (.Call _ [e,_] _ _)) _=>e
 | _=>.Name "" ⟨0,0,0,0⟩
noncomputable def lamB (x:Str)(ys:List Str)(L:LamI):Bool:=(L.scope.kind==.function)&&!L.scope.isCoroutine&&!L.scope.isGenerator&&decide (x::ys).Nodup&&(L.scope.names.lookup x==some .local)&&ys.all (λy=>L.scope.names.lookup y==some .free)&&L.scope.names.all (λp=>!(p.2==.free)||ys.contains p.1)&&L.scope.names.all (λp=>!(p.2==.cell))&&decide (frN L=ys)
theorem zHh (h:lamB x ys L=true)(hb:∀ cl pm c ctv u,bindArgs (W.kla_fn "<lambda>" L.qual L.params L.body L.scope cl pm c ctv) ⟨[u],[]⟩=pure [(x,u)]):zHN x ys L/\frN L=ys:=by
 unfold lamB at h;simp only[x8,Bool.not_eq_true',qy,all_eq_true,Bool.or_eq_true,beq_iff_eq,List.contains_iff_mem,beq_eq_false_iff_ne] at h;obtain⟨⟨⟨⟨⟨⟨⟨⟨h1,h2⟩,h3⟩,h4⟩,h5⟩,h6⟩,h7⟩,h8⟩,h9⟩:=h;refine⟨⟨h1,h2,h3,h4,h5,h6,λy e=>?_,h8,hb⟩,h9⟩;rcases h7 _ (PySem.mem_of_lookup e) with z | z
 .simp_all
 .omega
theorem zHo (L:LamI):∀ p∈L.scope.names,p.2=.free->p.1∈frN L:=λp hp hf=>by
 unfold frN;rw[List.mem_reverse];exact mem_map.mpr ⟨p,mem_filter.mpr ⟨hp,by rw[hf];rfl⟩,rfl⟩
noncomputable def capB (sc:Scope)(ps ys:List Str)(ix:List Nat):Bool:=decide (ix.length=ys.length)&&(List.range ys.length).all λk=>match ys[k]?,ix[k]? with
 | some y,some i=>decide (ps[i]?=some y)&&(sc.names.lookup y==some .cell)
 | _,_=>false
theorem zNc (h:capB sc ps ys ix=true):ix.length=ys.length/\∀ (k:Nat) y,ys[k]?=some y->∃ i,ix[k]?=some i/\ps[i]?=some y/\sc.names.lookup y=some .cell:=by
 unfold capB at h;rw[x8,qy,all_eq_true] at h;refine⟨h.1,λk y e=>?_⟩;have hk:k < ys.length:=(zzg e).1;have z:=h.2 k (mem_range.mpr hk);have hi:k < ix.length:=by rw[h.1];exact hk
 have ei:=getElem?_eq_getElem hi;rw[e,ei] at z;rw[x8,qy,beq_iff_eq] at z;exact⟨_,ei,z.1,z.2⟩
noncomputable def cPre (sc:Scope)(N bs:List Str):MT->List Stmt->Bool
 | .nil,[]=>true
 | .cons a .nil,[s]=>cS' sc N bs a s
 | _,_=>false
def zKX (J:Gm)(Y:Dm):MT->Mst->Option OutM
 | .cons a _=>evS' J Y a
 | _=>λs=>some (.nx s)
section
variable {P:Program}{w:World}{K:W.Frag}{mg:Str->Option Value}{base:Heap}{k:Nat}{J:Gm}{Y:Dm}{bs:List Str}
theorem zNF {st:Stmt}(d:DmOk P w K mg base k Y)(gk:GOk P w K mg base k J bs)(F:Fun K nm x st f fd)(sc:zAq N ps (zAA st))(LD:zE4 K x st f N pre e g L ix)
  (ck:cPre (zAA st) N bs mp pre=true) (ce:cM me (zAA st) N bs e=true) (mem:(g,Fg)∈Y) (hg:spec.lookup g=none):FnOk P w K mg base CX0 (k+1) f fd ps (spM K (lamM Fg j L ix ps.length N.length (zKX J Y mp) (evM J Y me))):=by
 have D:=d g Fg mem;rw[hg] at D;obtain⟨fg,fdg,psg,g1,g2,g3,g4⟩:=D;have o:∀ cdv A outer s H E,Room k _->XOkM (cxOf CX0 P w K mg base N x (zAA st) f cdv A outer s H E).nox k J Y bs:=λcdv A outer s H E hr=>⟨⟨gk,hr,rfl,sc.nd,PassesOwn.never⟩,d⟩
 refine zOR F sc LD ?_ (λcdv A outer s H E hr=>(zAz (o cdv A outer s H E hr) me).e _ ce) g1 g2 g3 g4;unfold cPre at ck;split at ck
 .exact .inl ⟨rfl,rfl⟩
 .exact .inr ⟨_,rfl,λcdv A outer s H E hr=>(zIw (o cdv A outer s H E hr) (λ_=>rfl) _).1 _ ck⟩
 .cases ck
theorem DmOk.addF {st:Stmt}(d:DmOk P w K mg base k Y)(gk:GOk P w K mg base k J bs)(F:Fun K x x st f fd)(sc:zAq N ps (zAA st))(LD:zE4 K x st f N pre e g L ix)
  (ck:cPre (zAA st) N bs mp pre=true) (ce:cM me (zAA st) N bs e=true) (m:mg x=some (.ref f)) (bi:zBb K fd ps []) (mem:(g,Fg)∈Y) (hg:spec.lookup g=none:=by decide +kernel) (hx:spec.lookup x=none:=by decide +kernel) :
  DmOk P w K mg base (k+1) (Y.add x (lamM Fg j L ix ps.length N.length (zKX J Y mp) (evM J Y me))):=d.one (Nat.le_succ k) (by rw[hx];exact⟨f,fd,ps,zNF d gk F sc LD ck ce mem hg,m,F.kp,bi⟩)
theorem DmOk.addFM {st:Stmt}(d:DmOk P w K mg base k Y)(gk:GOk P w K mg base k J bs)(F:Fun K nm x st f fd)(sc:zAq N ps (zAA st))(LD:zE4 K x st f N pre e g L ix)
  (ck:cPre (zAA st) N bs mp pre=true) (ce:cM me (zAA st) N bs e=true) (bi:zBb K fd ps []) (mem:(g,Fg)∈Y) (c1:zB0 K c C) (c2:Cls K C) (c3:Meth K C m f) (hx:spec.lookup x=some (.mth c m)) (hg:spec.lookup g=none:=by decide +kernel) :
  DmOk P w K mg base (k+1) (Y.add x (lamM Fg j L ix ps.length N.length (zKX J Y mp) (evM J Y me))):=d.one (Nat.le_succ k) (by rw[hx];exact⟨C,f,fd,ps,c1,c2,c3,zNF d gk F sc LD ck ce mem hg,bi⟩)
end
theorem tabs_of {K:W.Frag}{tl:List (Str×Addr×Addr)}(h1:tabQ K "thinned_covers"=tl.lookup ("thinned_covers":Str))(h2:tabQ K "Fill.films"=tl.lookup ("Fill.films":Str))(h3:tabQ K "Join.films"=tl.lookup ("Join.films":Str))(h4:tabQ K "Group.films"=tl.lookup ("Group.films":Str)):∀ x∈zCB,tabQ K x=tl.lookup x:=by
 intro x hx;simp only[zCB,mem_cons,not_mem_nil,or_false] at hx;rcases hx with rfl | rfl | rfl | rfl
 .omega
 .omega
 .omega
 .omega
theorem zNE (h1:ds.length=n+1)(h2:noFs ds=true)(h:EvP (G (ds.map λd=>some (d,false))) Q):EvP (lamD n G ds) Q:=by
 obtain⟨r,e,q⟩:=h;exact⟨r,by unfold lamD;rw[if_pos ⟨h1,h2⟩];exact e,q⟩
noncomputable def scB (N P:List Str)(sc:Scope):Bool:=(sc.kind==.function)&&!sc.isCoroutine&&!sc.isGenerator&&decide N.Nodup&&decide (N.take P.length=P)&&P.all (λx=>sc.names.lookup x==some .local||sc.names.lookup x==some .cell)&&sc.names.all λy=>!(y.2==.free)
theorem zI3 (h:scB N P sc=true):zAq N P sc:=by
 unfold scB at h;simp only[x8,Bool.not_eq_true',qy,all_eq_true,Bool.or_eq_true,beq_iff_eq,beq_eq_false_iff_ne] at h;obtain⟨⟨⟨⟨⟨⟨h1,h2⟩,h3⟩,h4⟩,h5⟩,h6⟩,h7⟩:=h;exact⟨h1,h2,h3,h4,h5,h6,h7⟩
noncomputable def dB (st:Stmt)(n:Nat)(N bs:List Str)(b:S):Bool:=scB N (N.take n) (zAA st)&&cSs (zAA st) N bs b (zAK st)
noncomputable def dM (st:Stmt)(n:Nat)(N bs:List Str)(b:MT):Bool:=scB N (N.take n) (zAA st)&&cSs' (zAA st) N bs b (zAK st)
structure FT (K:W.Frag)(x:Str)(st:Stmt)(f:Addr):Prop where
 a:W.nsIn K mainGlobals x=some (some (.ref f))
 F:∃ fd,Fun K x x st f fd
theorem ft {K:W.Frag}{st:Stmt}{kV:Value}(a:W.nsIn K mainGlobals x=some (some (.ref f)))(l:K.lookup f=some ⟨oc,od,.func (W.fnOf x x (zAp st) (zAK st) (zAA st) .none kV dc pm an cd ct),sl⟩)(c:W.codeIn K cd x=true)(k:W.keepIn K (.ref f)=true):FT K x st f:=⟨a,_,zJ8 l c k⟩
def bO (x q:Str)(st:Stmt)(ps:List Str):Prop:=∀ (kV doc pm:Value) (an:Option Addr) (cdv ct:Value) (us:List Value),us.length=ps.length->bindArgs (W.fnOf x q (zAp st) (zAK st) (zAA st) .none kV doc pm an cdv ct) ⟨us,[]⟩=pure (ps.zip us)
theorem bz0 {st:Stmt}(hp:ps.length=0)(h:∀ {kV doc pm:Value} {an:Option Addr} {cdv ct:Value},bindArgs (W.fnOf x q (zAp st) (zAK st) (zAA st) .none kV doc pm an cdv ct) ⟨[],[]⟩=pure (ps.zip [])):bO x q st ps:=λ_ _ _ _ _ _ us hl=>match us,hl.trans hp with | [],_=>h
theorem bz1 {st:Stmt}(hp:ps.length=1)(h:∀ {kV doc pm:Value} {an:Option Addr} {cdv ct a:Value},bindArgs (W.fnOf x q (zAp st) (zAK st) (zAA st) .none kV doc pm an cdv ct) ⟨[a],[]⟩=pure (ps.zip [a])):bO x q st ps:=λ_ _ _ _ _ _ us hl=>match us,hl.trans hp with | [_],_=>h
theorem bz2 {st:Stmt}(hp:ps.length=2)(h:∀ {kV doc pm:Value} {an:Option Addr} {cdv ct a b:Value},bindArgs (W.fnOf x q (zAp st) (zAK st) (zAA st) .none kV doc pm an cdv ct) ⟨[a,b],[]⟩=pure (ps.zip [a,b])):bO x q st ps:=λ_ _ _ _ _ _ us hl=>match us,hl.trans hp with | [_,_],_=>h
theorem bz3 {st:Stmt}(hp:ps.length=3)(h:∀ {kV doc pm:Value} {an:Option Addr} {cdv ct a b c:Value},bindArgs (W.fnOf x q (zAp st) (zAK st) (zAA st) .none kV doc pm an cdv ct) ⟨[a,b,c],[]⟩=pure (ps.zip [a,b,c])):bO x q st ps:=λ_ _ _ _ _ _ us hl=>match us,hl.trans hp with | [_,_,_],_=>h
theorem bz4 {st:Stmt}(hp:ps.length=4)(h:∀ {kV doc pm:Value} {an:Option Addr} {cdv ct a b c d:Value},bindArgs (W.fnOf x q (zAp st) (zAK st) (zAA st) .none kV doc pm an cdv ct) ⟨[a,b,c,d],[]⟩=pure (ps.zip [a,b,c,d])):bO x q st ps:=λ_ _ _ _ _ _ us hl=>match us,hl.trans hp with | [_,_,_,_],_=>h
theorem bz5 {st:Stmt}(hp:ps.length=5)(h:∀ {kV doc pm:Value} {an:Option Addr} {cdv ct a b c d e:Value},bindArgs (W.fnOf x q (zAp st) (zAK st) (zAA st) .none kV doc pm an cdv ct) ⟨[a,b,c,d,e],[]⟩=pure (ps.zip [a,b,c,d,e])):bO x q st ps:=λ_ _ _ _ _ _ us hl=>match us,hl.trans hp with | [_,_,_,_,_],_=>h
section
variable {P:Program}{w:World}{K:W.Frag}{mg:Str->Option Value}{base h:Heap}{k:Nat}{J:Gm}{Y:Dm}{bs:List Str}{x:Str}{st:Stmt}{f:Addr}{N ps:List Str}{n:Nat}
theorem GOk.addT (g:GOk P w K mg base k J bs)(X:K.In h)(G:h.Ns mainGlobals mg)(t:FT K x st f)(ck:dB st n N bs b=true)(hb:bO x x st (N.take n)):GOk P w K mg base (k+1) (J.add x (dFun (N.take n).length N.length (evSs J b))) bs :=
 let ⟨_,E⟩:=t.F;g.add E (zI3 (Bool.and_eq_true_iff.mp ck).1) (Bool.and_eq_true_iff.mp ck).2 (W.mg_of X G t.a) (E.binds hb)
theorem GOk.addU (g:GOk P w K mg base k J bs)(X:K.In h)(G:h.Ns mainGlobals mg)(t:FT K x st f)(ck:dM st n N bs b=true)(hb:bO x x st (N.take n)):GOk P w K mg base k (J.add x (λ_=>none)) bs :=
 let ⟨_,E⟩:=t.F;g.addN E (W.mg_of X G t.a) (E.binds hb)
theorem DmOk.addT (d:DmOk P w K mg base k Y)(g:GOk P w K mg base k J bs)(X:K.In h)(G:h.Ns mainGlobals mg)(t:FT K x st f)(ck:dM st n N bs b=true)(hb:bO x x st (N.take n))(hx:spec.lookup x=none:=by decide +kernel):DmOk P w K mg base (k+1) (Y.add x (zBE (N.take n).length N.length (evSs' J Y b))) :=
 let ⟨_,E⟩:=t.F;d.add g E (zI3 (Bool.and_eq_true_iff.mp ck).1) (Bool.and_eq_true_iff.mp ck).2 (W.mg_of X G t.a) (E.binds hb) hx
end
section
variable {P:Program}{w:World}{K:W.Frag}{mg:Str->Option Value}{base:Heap}{k:Nat}{J:Gm}{Y:Dm}{bs:List Str}{m q c:Str}{st:Stmt}{C f:Addr}{N:List Str}{n:Nat}
structure FQ (K:W.Frag)(C f:Addr)(m q:Str)(st:Stmt):Prop where
 M:Meth K C m f
 F:∃ fd,Fun K m q st f fd
theorem fq {kV:Value}(a:W.findIn K (.ref C) m=some (some (.ref f)))(i:W.isFn K (.ref f)=true)(l:K.lookup f=some ⟨oc,od,.func (W.fnOf m q (zAp st) (zAK st) (zAA st) .none kV dc pm an cd ct),sl⟩)(c:W.codeIn K cd q=true)(k:W.keepIn K (.ref f)=true):FQ K C f m q st:=⟨⟨a,i,k⟩,_,zJ8 l c k⟩
theorem DmOk.addQ (d:DmOk P w K mg base k Y)(g:GOk P w K mg base k J bs)(t:FQ K C f m q st)(c1:zB0 K c C)(c2:Cls K C)(ck:dM st n N bs b=true)(hb:bO m q st (N.take n))(hx:spec.lookup q=some (.mth c m)):DmOk P w K mg base (k+1) (Y.add q (zBE (N.take n).length N.length (evSs' J Y b))) :=
 let ⟨_,E⟩:=t.F;d.addM g E (zI3 (Bool.and_eq_true_iff.mp ck).1) (Bool.and_eq_true_iff.mp ck).2 (E.binds hb) c1 c2 t.M hx
structure UC (K:W.Frag)(c:Str)(C:Addr)(ns:List Str):Prop where
 a:zB0 K c C
 c:Cls K C
 k:W.makesIn K C=true
 kc:W.keepIn K (.ref C)=true
 n:∀ n∈ns,zBT K C n
theorem nf0:∀ n∈([]:List Str),zBT K C n:=by simp
theorem nfc (h:W.findIn K (.ref C) x=some none)(t:∀ n∈ns,zBT K C n):∀ n∈x::ns,zBT K C n:=λn hn=>by
 cases hn with
 | head=>exact h
 | tail _ hn=>exact t n hn
theorem uc (a:W.nsIn K mainGlobals c=some (some (.ref C)))(pg:W.plainGet K C Str.empty=true)(hd:W.hasDictIn K C=true)(po:W.plainOver K C=true)(sa:W.findIn K (.ref C) "__setattr__"=some (some (.builtin "object.__setattr__")))(mk:W.makesIn K C=true)(kc:W.keepIn K (.ref C)=true)(n:∀ n∈ns,zBT K C n):UC K c C ns:=⟨a,⟨pg,hd,po,sa⟩,mk,kc,n⟩
theorem UC.o (u:UC K c C ns)(h:x∈ns):∀ C',zB0 K c C'->Cls K C'/\zBT K C' x:=λ_ q=>by
 obtain rfl:=zFd u.a q;exact⟨u.c,u.n x h⟩
end
theorem zPI :evM J Y (.pur e)=zLg (evE J e):=rfl
theorem zPG :evM J Y (.var i)=varM i:=rfl
theorem zMM :evM J Y (.call n f es)=fnM Y n f (evMs J Y es):=rfl
theorem zMK  :evMs J Y .nil=nilM:=rfl
theorem zKY :evMs J Y (.cons e es)=zMc (evM J Y e) (evMs J Y es):=rfl
theorem zPJ :evM J Y (.lst es)=lstM (evMs J Y es):=rfl
theorem zPH :evM J Y (.tup es)=tupM (evMs J Y es):=rfl
theorem zRz :evM J Y (.ix a b)=twoM (evM J Y a) (evM J Y b) ixW:=rfl
theorem zPB :evT J Y (.pur e)=zLh (asB (evE J e)):=rfl
theorem zKS  :evSs' J Y .nil=(λs=>some (.nx s)):=rfl
theorem zC2 :evSs' J Y (.cons a b)=seqM (evS' J Y a) (evSs' J Y b):=rfl
theorem zMH :evS' J Y (.set i e)=setM i (evM J Y e):=rfl
theorem zKU :evS' J Y (.setC i e)=setM i (evM J Y e):=rfl
theorem zMI :evS' J Y (.ret e)=retM (evM J Y e):=rfl
theorem zKW :evS' J Y (.drop e)=zMU (evM J Y e):=rfl
theorem zHs :evS' J Y (.ife c a b)=ifM (evT J Y c) (evSs' J Y a) (evSs' J Y b):=rfl
theorem zMJ :evS' J Y (.app t e)=appM (evM J Y t) (evM J Y e):=rfl
theorem zML :evM J Y (.comp n ms u2 src el)=zHD ms 1 (evSrc J Y src) (tgM n) (evM J Y el):=rfl
theorem zMG :evSrc J Y (.it a)=srcM (evM J Y a):=rfl
section
variable {J:Gm}{Y:Dm}{O:List (Option W)}{G:Mem}{s:Mst}
theorem zAm (hd:drS G O=O2)(h:EvP (evE J e O2) λr=>EvP (zGU r G) Q):EvP (evM J Y (.pur e) ⟨O,G⟩) Q:=by
 obtain⟨r,e1,z,e2,q⟩:=h;exact⟨z,by rw[zPI];unfold zLg;rw[hd,e1,qx,e2],q⟩
theorem zAl (n:noL d=true)(h:Q (.dat d,G)):EvP (zGU (d,.cl) G) Q:=⟨_,by cases d<;>exact if_pos (e:=none) n,h⟩
theorem zKz (n:noLs ds=true)(h:Q (.loc G.length,G++[ds.map .dat])):EvP (zGU (.lst ds,.fr) G) Q:=⟨_,if_pos n,h⟩
theorem zAF (e:O[i]?=some (some w))(h:Q (w,G)):EvP (evM J Y (.var i) ⟨O,G⟩) Q:=by
 refine⟨_,?_,h⟩;rw[zPG];unfold varM;rw[e]
theorem zCE (e:Y[n]?=some (f,F))(h:EvP (evMs J Y es s) λws=>EvP (F ws.1 ws.2) Q):EvP (evM J Y (.call n f es) s) Q:=by
 obtain⟨ws,e1,r,e2,q⟩:=h;refine⟨r,?_,q⟩;rw[zMM];unfold fnM;unfold zKv
 simp_all
theorem zAY (h:Q ([],G)):EvP (evMs J Y .nil ⟨O,G⟩) Q:=⟨_,by rw[zMK];rfl,h⟩
theorem zAE (h:EvP (evM J Y e s) λw=>EvP (evMs J Y es ⟨s.O,w.2⟩) λws=>Q (w.1::ws.1,ws.2)):EvP (evMs J Y (.cons e es) s) Q:=by
 obtain⟨w,e1,ws,e2,q⟩:=h;exact⟨_,by rw[zKY];unfold zMc;rw[e1,qx,e2,qx],q⟩
theorem zEW (h:EvP (evMs J Y es s) λr=>r.1.length<=10000/\Q (.loc r.2.length,r.2++[r.1])):EvP (evM J Y (.lst es) s) Q:=by
 obtain⟨r,e1,l,q⟩:=h;exact⟨_,by rw[zPJ];unfold lstM;rw[e1,qx,if_pos l],q⟩
theorem zSd (h:EvP (evMs J Y es s) λr=>r.1.length<=10000/\Q (.tup r.1,r.2)):EvP (evM J Y (.tup es) s) Q:=by
 obtain⟨r,e1,l,q⟩:=h;exact⟨_,by rw[zPH];unfold tupM;rw[e1,qx,if_pos l],q⟩
theorem m_ix (h:EvP (evM J Y a s) λx=>EvP (evM J Y b ⟨s.O,x.2⟩) λy=>EvP (ixW x.1 y.1 y.2) Q):EvP (evM J Y (.ix a b) s) Q:=by
 obtain⟨x,e1,y,e2,r,e3,q⟩:=h;exact⟨_,by rw[zRz];unfold twoM;rw[e1,qx,e2,qx,e3],q⟩
theorem zPK :evM J Y (.cmp op a b)=twoM (evM J Y a) (evM J Y b) (opM (cmpD op)):=rfl
theorem zIV (h:EvP (evM J Y a s) λx=>EvP (evM J Y b ⟨s.O,x.2⟩) λy=>∃ u v,drW y.2 x.1=some u/\drW y.2 y.1=some v/\EvP (cmpD op u v) λr=>EvP (zGU r y.2) Q):EvP (evM J Y (.cmp op a b) s) Q:=by
 obtain⟨x,e1,y,e2,u,v,e3,e4,r,e5,z,e6,q⟩:=h;exact⟨_,by rw[zPK];unfold twoM;rw[e1,qx,e2,qx];unfold opM;rw[e3,qx,e4,qx,e5,qx,e6],q⟩
theorem zB4 (e:G[n]?=some ws)(e2:atI ws i=some w)(h:Q (w,G)):EvP (ixW (.loc n) (.dat (.int i)) G) Q:=by
 refine⟨_,?_,h⟩;show (G[n]?.bind λws=>(atI ws i).map λw=>_)=_
 simp_all
theorem zFB (hd:drS G O=O2)(h:EvP (evE J e O2) λr=>∃ b,r.1=.bl b/\Q (b,G)):EvP (evT J Y (.pur e) ⟨O,G⟩) Q:=by
 obtain⟨r,e1,b,e2,q⟩:=h;refine⟨_,?_,q⟩;rw[zPB];unfold zLh;have:asB (evE J e) O2=some b:=by
  unfold asB;obtain⟨d,k⟩:=r
  simp_all
 simp_all
theorem zPC :evT J Y (.cmp op a b)=asBM (evM J Y (.cmp op a b)):=rfl
theorem zPs (h:EvP (evM J Y (.cmp op a b) s) λr=>∃ c,r.1=.dat (.bl c)/\Q (c,r.2)):EvP (evT J Y (.cmp op a b) s) Q:=by
 obtain⟨⟨r,m⟩,e1,c,e2,q⟩:=h;cases e2;refine⟨_,?_,q⟩;rw[zPC];unfold asBM;rw[e1]
def KM (J:Gm)(Y:Dm)(b:MT)(Q:OutM->Prop):OutM->Prop
 | .nx s=>EvP (evSs' J Y b s) Q
 | o=>Q o
theorem zAx (h:Q (.nx s)):EvP (evSs' J Y .nil s) Q:=⟨_,by rw[zKS],h⟩
theorem zAC (h:EvP (evS' J Y a s) (KM J Y b Q)):EvP (evSs' J Y (.cons a b) s) Q:=by
 obtain⟨o,e1,q⟩:=h;cases o with
 | nx s' =>
  obtain⟨r,e2,q⟩:=q;exact⟨r,by rw[zC2];unfold seqM;rw[e1];exact e2,q⟩
 | rt r=>exact⟨_,by rw[zC2];unfold seqM;rw[e1,qx],q⟩
 | bk r=>exact⟨_,by rw[zC2];unfold seqM;rw[e1,qx],q⟩
 | ct r=>exact⟨_,by rw[zC2];unfold seqM;rw[e1,qx],q⟩
theorem zAS (h:EvP (evSs' J Y b s) Q):KM J Y b Q (.nx s):=h
theorem zDP (h:Q (.rt r)):KM J Y b Q (.rt r):=h
theorem zBI (h:EvP (evM J Y e s) λr=>Q (.nx ⟨s.O.set i (some r.1),r.2⟩)):EvP (evS' J Y (.set i e) s) Q:=by
 obtain⟨r,e1,q⟩:=h;exact⟨_,by rw[zMH];unfold setM;rw[e1];rfl,q⟩
theorem zGb (h:EvP (evM J Y e s) λr=>Q (.nx ⟨s.O.set i (some r.1),r.2⟩)):EvP (evS' J Y (.setC i e) s) Q:=by
 obtain⟨r,e1,q⟩:=h;exact⟨_,by rw[zKU];unfold setM;rw[e1];rfl,q⟩
theorem zBt (h:EvP (evM J Y e s) λr=>Q (.rt r)):EvP (evS' J Y (.ret e) s) Q:=by
 obtain⟨r,e1,q⟩:=h;exact⟨_,by rw[zMI];unfold retM;rw[e1];rfl,q⟩
theorem zBu (h:EvP (evM J Y e s) λr=>Q (.nx ⟨s.O,r.2⟩)):EvP (evS' J Y (.drop e) s) Q:=by
 obtain⟨r,e1,q⟩:=h;exact⟨_,by rw[zKW];unfold zMU;rw[e1];rfl,q⟩
theorem zCD (h:EvP (evT J Y c s) λr=>(r.1=true->EvP (evSs' J Y a ⟨s.O,r.2⟩) Q)/\(r.1=false->EvP (evSs' J Y b ⟨s.O,r.2⟩) Q)):EvP (evS' J Y (.ife c a b) s) Q:=by
 obtain⟨⟨r,m⟩,e1,q1,q2⟩:=h;cases r with
 | true =>
  obtain⟨o,e2,q⟩:=q1 rfl;exact⟨o,by rw[zHs];unfold ifM;rw[e1,qx];exact(if_pos rfl).trans e2,q⟩
 | false =>
  obtain⟨o,e2,q⟩:=q2 rfl;exact⟨o,by rw[zHs];unfold ifM;rw[e1,qx];exact(if_neg qX).trans e2,q⟩
theorem zEg (h:EvP (evM J Y t s) λx=>EvP (evM J Y e ⟨s.O,x.2⟩) λr=>∃ n ws,x.1=.loc n/\r.2[n]?=some ws/\ws.length<=10000/\Q (.nx ⟨s.O,r.2.set n (ws++[r.1])⟩)):EvP (evS' J Y (.app t e) s) Q:=by
 obtain⟨_,e1,r,e2,n,ws,e3,e4,l,q⟩:=h;refine⟨_,?_,q⟩;rw[zMJ];unfold appM;rw[e1,qx]
 simp_all
def KFM (Q:MR->Prop):OutM->Prop
 | .rt r=>Q r
 | .nx s=>Q (.dat .non,s.G)
 | _=>False
theorem zCU (h1:ws.length=np)(h2:np<=nN)(h:EvP (g ⟨ws.map some++List.replicate (nN - np) none,G⟩) (KFM Q)):EvP (zBE np nN g ws G) Q:=by
 obtain⟨o,e1,q⟩:=h;cases o with
 | rt r=>exact⟨_,by unfold zBE;rw[if_pos ⟨h1,h2⟩,e1];rfl,q⟩
 | nx s=>exact⟨_,by unfold zBE;rw[if_pos ⟨h1,h2⟩,e1];rfl,q⟩
 | bk _=>exact q.elim
 | ct _=>exact q.elim
theorem zGf :∀ ds:List D,sbL f (ds.map .dat)=some ds
 | []=>by rw[map_nil,sbL]
 | d::ds=>by rw[map_cons,sbL,sbW,qx,zGf ds];rfl
theorem zGH (e:G[n]?=some ws)(h:sbL (drN G k) ws=some ds):drN G (k+1) n=some (.lst ds):=by
 rw[drN,e,qx,h];rfl
theorem zKc (e:G[n]?=some (ds.map .dat)):drN G (k+1) n=some (.lst ds):=zGH e (zGf ds)
theorem zKf :drS G (some (.dat d)::O)=some (d,false)::drS G O:=rfl
theorem zKe (h:drN G 6 n=some d):drS G (some (.loc n)::O)=some (d,false)::drS G O:=by
 show ((drW G _).map λd=>_)::drS G O=_;unfold drW;rw[sbW,h]
 rfl
theorem zCp (h:drS G O=O2):drS G (some (.dat d)::O)=some (d,false)::O2:=by rw[<- h];exact zKf
theorem zAu (h:drS G O=O2):drS G (o::O)=(o.bind λw=>(drW G w).map λd=>(d,false))::O2:=by rw[<- h];rfl
theorem zEo (h:EvP (evSrc J Y src s) λz=>∃ y N,zCH (tgM n) (evM J Y el) z.1 N 0 ⟨mask none ms s.O++[none],z.2⟩ []=some y/\y.1.length<=10000/\Q (.loc y.2.length,y.2++[y.1])):EvP (evM J Y (.comp n ms x src el) s) Q:=by
 obtain⟨z,e1,y,N,e2,l,q⟩:=h;refine⟨_,?_,q⟩;rw[zML];unfold zHD;rw[e1];simp;rw[zKq e2,qx,if_pos l]
theorem zP1 (e:evM J Y a s=some (.loc n,m))(h:Q (.live n,m)):EvP (evSrc J Y (.it a) s) Q:=by
 refine⟨_,?_,h⟩;rw[zMG];unfold srcM;rw[e]
 rfl
end
end DL
end
section
namespace DL
open PySem L2
end DL
end
section
namespace DL
open PySem Spec PyProof.Rows L2
theorem zKV :evS' J Y (.for1 i src b)=(λs=>(evSrc J Y src s).bind λr=>zFa (tgM i) (evSs' J Y b) r.1 0 ⟨s.O,r.2⟩):=rfl
theorem zKT :evSrc J Y (.rng a)=zLC (evM J Y a):=rfl
section
variable {J:Gm}{Y:Dm}{O:List (Option W)}{G:Mem}{s:Mst}
def KLM (P:Mst->Prop)(Q:OutM->Prop):OutM->Prop
 | .nx s=>P s
 | .ct s=>P s
 | .bk s=>Q (.nx s)
 | .rt r=>Q (.rt r)
theorem zEu (ws:List W)(P:Nat->Mst->Prop)(it:∀ j s,P j s->itm s.G src=some ws)
  (step:∀ j w s,ws[j]?=some w->P j s->∃ s1,t w s=some s1/\EvP (b s1) (KLM (P (j+1)) Q)) (fin:∀ s,P ws.length s->Q (.nx s)) (h:P 0 s):EvP (zFa t b src 0 s) Q:=by
 have key:∀ (k j:Nat) (s:Mst),j+k=ws.length->P j s->∃ o,forN t b src (k+1) j s=some o/\Q o:=by
  intro k
  induction k with
  | zero =>
   intro j s e p;have ej:j=ws.length:=by omega
   subst ej;refine⟨_,?_,fin s p⟩;rw[forN,it _ s p,qx,getElem?_eq_none (le_refl _)]
  | succ k ih =>
   intro j s e p;have ew:ws[j]?=some ws[j]:=getElem?_eq_getElem (by omega);obtain⟨s1,e1,o,e2,q⟩:=step j _ s ew p;cases o with
   | nx s' =>
    obtain⟨o',e3,q'⟩:=ih (j+1) s' (by omega) q;exact⟨o',by rw[forN,it j s p,qx,ew];dsimp only;rw[e1,qx,e2,qx];exact e3,q'⟩
   | ct s' =>
    obtain⟨o',e3,q'⟩:=ih (j+1) s' (by omega) q;exact⟨o',by rw[forN,it j s p,qx,ew];dsimp only;rw[e1,qx,e2,qx];exact e3,q'⟩
   | bk s'=>exact⟨_,by rw[forN,it j s p,qx,ew];dsimp only;rw[e1,qx,e2,qx],q⟩
   | rt r=>exact⟨_,by rw[forN,it j s p,qx,ew];dsimp only;rw[e1,qx,e2,qx],q⟩
 obtain⟨o,e,q⟩:=key ws.length 0 s (by omega) h;exact⟨o,zMD e,q⟩
theorem zDU (h:EvP (evSrc J Y src s) λr=>EvP (zFa (tgM i) (evSs' J Y b) r.1 0 ⟨s.O,r.2⟩) Q):EvP (evS' J Y (.for1 i src b) s) Q:=by
 obtain⟨r,e1,o,e2,q⟩:=h;exact⟨o,by rw[zKV];dsimp only;rw[e1];exact e2,q⟩
theorem zDT (h:EvP (evM J Y a s) λx=>∃ n,x.1=.loc n/\Q (.live n,x.2)):EvP (evSrc J Y (.it a) s) Q:=by
 obtain⟨⟨x,m⟩,e,n,e2,q⟩:=h;cases e2;exact zP1 e q
theorem zC9 (h:EvP (evM J Y a s) λx=>∃ j,x.1=.dat (.int j)/\(-(2^62)<=j/\j < 2^62)/\Q (.items ((rngL 0 j.toNat).map .dat),x.2)):EvP (evSrc J Y (.rng a) s) Q:=by
 obtain⟨⟨x,m⟩,e,j,e2,l,q⟩:=h;cases e2;refine⟨_,?_,q⟩;rw[zKT];unfold zLC;rw[e];exact if_pos l
end
end DL
namespace DL
open PySem L2
end DL
end
section
namespace DL
open PySem L2
noncomputable def news (m k:Nat):List W:=(List.range k).map λj=>.loc (m+j)
theorem zD0 (m i:Nat):news m (i+1)=news m i++[.loc (m+i)]:=by unfold news;rw[range_succ,xJ];rfl
theorem zCy (m i:Nat):(news m i).length=i:=by unfold news;rw[List.length_map,length_range]
theorem zOJ (h:i < k):(news m k)[i]?=some (.loc (m+i)):=by unfold news;rw[getElem?_map,getElem?_range h];rfl
theorem zEy (ws:List W)(P:Nat->Mst->List W->Prop)(it:∀ j s d,P j s d->itm s.G src=some ws)
  (step:∀ j w s d,ws[j]?=some w->P j s d->d.length<=10000/\∃ s1 r,t w s=some s1/\e s1=some r/\P (j+1) ⟨s1.O,r.2⟩ (d++[r.1])) (h:P 0 s []):∃ y s' N,zCH t e src N 0 s []=some y/\P ws.length s' y.1/\s'.G=y.2:=by
 have key:∀ (k j:Nat) (s:Mst) (d:List W),j+k=ws.length->P j s d->∃ y s',zCH t e src (k+1) j s d=some y/\P ws.length s' y.1/\s'.G=y.2:=by
  intro k
  induction k with
  | zero =>
   intro j s d ej p;have ej:j=ws.length:=by omega
   subst ej;refine⟨(d,s.G),s,?_,p,rfl⟩;rw[zCH,it _ s d p,qx,getElem?_eq_none (le_refl _)]
  | succ k ih =>
   intro j s d ej p;have hj:j < ws.length:=by omega
   have ew:ws[j]?=some ws[j]:=getElem?_eq_getElem hj;obtain⟨l,s1,r,e1,e2,q⟩:=step j _ s d ew p;obtain⟨y,s',e3,q'⟩:=ih (j+1) ⟨s1.O,r.2⟩ _ (by omega) q;refine⟨y,s',?_,q'⟩;rw[zCH,it j s d p,qx,ew]
   simp_all
 obtain⟨y,s',e,q⟩:=key ws.length 0 s [] (by omega) h;exact⟨y,s',_,e,q⟩
mutual
theorem zHW {f g:Nat->Option D}(hf:∀ n d,f n=some d->g n=some d):∀ {w:W} {d:D},sbW f w=some d->sbW g w=some d
 | .dat x,d,e=>by rw[sbW] at e ⊢;exact e
 | .loc n,d,e=>by rw[sbW] at e ⊢;exact hf n d e
 | .tup ws,d,e=>by
  rw[sbW] at e ⊢;obtain⟨ds,e1,rfl⟩:=x9.mp e;rw[sbL_mono hf e1]
  rfl
 | .obj c ns ws,d,e=>by rw[sbW] at e ⊢;exact e
theorem sbL_mono {f g:Nat->Option D}(hf:∀ n d,f n=some d->g n=some d):∀ {ws:List W} {ds:List D},sbL f ws=some ds->sbL g ws=some ds
 | [],ds,e=>by rw[sbL] at e ⊢;exact e
 | w::ws,ds,e=>by
  rw[sbL] at e ⊢;obtain⟨d,e1,e⟩:=bind_some e;obtain⟨ds',e2,rfl⟩:=x9.mp e;rw[zHW hf e1,qx,sbL_mono hf e2]
  rfl
end
theorem zHv (hm:∀ (n:Nat) (ws:List W),G[n]?=some ws->G'[n]?=some ws):∀ (k n:Nat) (d:D),drN G k n=some d->drN G' k n=some d
 | 0,_,_,e=>by cases e
 | k+1,n,d,e=>by
  rw[drN] at e ⊢;obtain⟨ws,e1,e⟩:=bind_some e;obtain⟨ds,e2,rfl⟩:=x9.mp e;rw[hm n ws e1,qx,sbL_mono (λn d q=>zHv hm k n d q) e2]
  rfl
theorem zMW (hm:∀ (n:Nat) (ws:List W),G[n]?=some ws->G'[n]?=some ws)(e:drW G w=some d):drW G' w=some d:=zHW (λn d q=>zHv hm 6 n d q) e
theorem zAi {γ:Mem}{n:Nat}(h:G[n]?=some ws):(G++γ)[n]?=some ws:=by
 rw[getElem?_append_left (zzg h).1];exact h
theorem zFG {g:Nat->Option D}{U:Type}(ad:U->Nat)(d:U->D):∀ l:List U,(∀ i∈l,g (ad i)=some (d i))->sbL g (l.map λi=>.loc (ad i))=some (l.map d)
 | [],_=>by rw[map_nil,sbL];rfl
 | i::l,h=>by
  rw[map_cons,sbL,sbW,h i q8,qx,zFG ad d l λj hj=>h j (qY _ hj)]
  rfl
noncomputable def zKb:MT:=.cons (.ret (.comp 1 [] "k" (.rng (.var 0)) (.lst .nil))) .nil
def zIA (F:MF):Prop:=∀ (k:Nat) (G:Mem) (Q:MR->Prop),k<=100->Q (.loc (G.length+k),G++List.replicate k []++[news G.length k])->EvP (F [.dat (.int k)] G) Q
theorem zMQ :zIA (zBE 1 1 (evSs' J Y zKb)):=λk G Q hk h=>by
 refine zCU rfl (by decide) ?_;unfold zKb;refine zAC (zBt (zEo (zC9 (zAF (w:=.dat (.int k)) rfl ⟨(k:Int),rfl,by omega,?_⟩))));rw[toNat_natCast];obtain⟨y,s',N,e,⟨o,p1,p2,p3⟩,p4⟩:=zEy (t:=tgM 1) (e:=evM J Y (.lst .nil)) (src:=.items ((rngL 0 k).map .dat)) (s:=⟨mask none [] [some (.dat (.int k))]++[none],G⟩) ((rngL 0 k).map .dat)
  (λj s d=>∃ o:Option W,s=⟨[some (.dat (.int k)),o],G++List.replicate j []⟩/\d=news G.length j/\j<=k) (λj s d _=>rfl) (λj w s d ew zz137=>by
   obtain⟨o,p1,p2,p3⟩:=zz137;subst p1 p2;have hj:j < k:=by
    have:=(zzg ew).1;rw[List.length_map,zBe] at this;exact this
   refine⟨by rw[zCy];omega,⟨[some (.dat (.int k)),some w],G++List.replicate j []⟩,(.loc (G++List.replicate j []).length,G++List.replicate j []++[[]]),rfl,?_,some w,?_,?_,by omega⟩
   .rfl
   .rw [List.replicate_succ',qJ]
   .rw [zD0,qj,length_replicate]) ⟨none,by rw[List.replicate_zero,append_nil];rfl,rfl,zero_le _⟩
 have lw:((rngL 0 k).map W.dat).length=k:=by rw[List.length_map,zBe]
 rw[lw] at p1 p2;subst p1;have e2:y=(news G.length k,G++List.replicate k []):=Prod.ext p2 p4.symm;refine⟨y,N,e,by rw[p2,zCy];omega,?_⟩;rw[e2];show KFM Q (.rt (.loc (G++List.replicate k []).length,_));rw[qj,length_replicate];exact h
structure zA6 (G:Mem)(a w h:Nat)(f:Nat->Nat->List D):Prop where
 cell:∀ r c,r < h->c<=w->G[a+r*(w+2)+c]?=some ((f r c).map .dat)
 row:∀ r,r < h->G[a+r*(w+2)+(w+1)]?=some (news (a+r*(w+2)) (w+1))
 top:G[a+h*(w+2)]?=some ((List.range h).map λr=>.loc (a+r*(w+2)+(w+1)))
theorem zA6.keep (t:zA6 G a w h f)(k:∀ (n:Nat) (ws:List W),a<=n->n<=a+h*(w+2)->G[n]?=some ws->G'[n]?=some ws):zA6 G' a w h f:=by
 have lt:∀ r c,r < h->c<=w+1->r*(w+2)+c < h*(w+2):=λr c hr hc=>by
  have:=Nat.mul_le_mul_right (w+2) hr;grind
 exact⟨λr c hr hc=>k _ _ (by omega) (by have:=lt r c hr (by omega);omega) (t.cell r c hr hc),λr hr=>k _ _ (by omega) (by have:=lt r (w+1) hr (by omega);omega) (t.row r hr),k _ _ (by omega) (le_refl _) t.top⟩
theorem zA6.app (t:zA6 G a w h f)(γ:Mem):zA6 (G++γ) a w h f:=t.keep λ_ _ _ _ e=>zAi e
theorem zNJ (hc:c<=w+1)(hc':c'<=w+1)(e:r*(w+2)+c=r'*(w+2)+c'):r=r'/\c=c':=by
 have lt:∀ {r r' c c':Nat},c<=w+1->r < r'->r*(w+2)+c < r'*(w+2)+c':=λ{r r' c c'} hc hr=>by
  have:=Nat.mul_le_mul_right (w+2) hr;grind
 rcases Nat.lt_trichotomy r r' with q | q | q
 .have:=lt (c':=c') hc q;omega
 .grind
 .have:=lt (c':=c) hc' q;omega
noncomputable def more (f:Nat->Nat->List D)(r c:Nat)(q:D):Nat->Nat->List D:=λr' c'=>if r'=r/\c'=c then f r c++[q] else f r' c'
theorem zA6.more (t:zA6 G a w h f)(hr:r < h)(hc:c<=w):zA6 (G.set (a+r*(w+2)+c) (((f r c).map .dat)++[.dat q])) a w h (more f r c q):=by
 have hl:=(zzg (t.cell r c hr hc)).1;have hn:r*(w+2)+c < h*(w+2):=by
  have:=Nat.mul_le_mul_right (w+2) (show r+1<=h from hr);rw[Nat.succ_mul] at this;omega
 refine⟨λr' c' hr' hc'=>?_,λr' hr'=>?_,?_⟩
 .by_cases e:r'=r/\c'=c
  .obtain ⟨rfl,rfl⟩:=e;rw[getElem?_set_self hl];unfold DL.more;rw[if_pos ⟨rfl,rfl⟩,xJ]
   rfl
  .unfold DL.more;rw[if_neg e,getElem?_set_ne]
   .exact t.cell r' c' hr' hc'
   .intro z;have:=zNJ (w:=w) (r:=r) (c:=c) (r':=r') (c':=c') (by omega) (by omega) (by omega);exact e ⟨this.1.symm,this.2.symm⟩
 .rw [getElem?_set_ne]
  .exact t.row r' hr'
  .intro z;have:=zNJ (w:=w) (r:=r) (c:=c) (r':=r') (c':=w+1) (by omega) (by omega) (by omega);omega
 .rw [getElem?_set_ne (by omega)];exact t.top
theorem zA6.other (t:zA6 G a w h f)(hn:n < a\/a+h*(w+2) < n):zA6 (G.set n x) a w h f:=t.keep λm ws h1 h2 e=>by
 rw[getElem?_set_ne (by omega)];exact e
theorem zMp (t:zA6 G a w h f):drN G 6 (a+h*(w+2))=some (.lst ((List.range h).map λr=>D.lst ((List.range (w+1)).map λc=>.lst (f r c)))):=by
 refine zGH t.top (zFG _ _ _ λr hr=>?_)
 simp_all
 have q:drN G 5 (a+r*(w+2)+w+1)=some (.lst ((List.range (w+1)).map λc=>.lst (f r c))):=by
  refine zGH (t.row r hr) (zFG _ _ _ λc hc=>?_)
  simp_all
  exact zGH (t.cell r c hr (by omega)) (zGf _)
 omega
noncomputable def tabE (ne:Nat):ME:=.comp 7 [] "row" (.rng (.var 1)) (.call ne "empty_lists" (.cons (.pur (.bin .Add (.var 0) (.int 1))) .nil))
theorem zMo (ee:Y[ne]?=some (("empty_lists":Str),Fe))(he:zIA Fe)(hw:w<=6)(hh:h<=6)
  (hQ:∀ γ:Mem,γ.length=h*(w+2)+1->zA6 (G++γ) G.length w h (λ_ _=>[])->Q (.loc (G.length+h*(w+2)),G++γ)) :
  EvP (evM J Y (tabE ne) ⟨[some (.dat (.int w)),some (.dat (.int h)),x2,x3,x4,x5,x6],G⟩) Q:=by
 unfold tabE;refine zEo (zC9 (zAF (w:=.dat (.int h)) rfl ⟨(h:Int),rfl,by omega,?_⟩));rw[toNat_natCast];obtain⟨y,s',N,e,⟨o,γ,p1,p2,p3,p4,p5,p6⟩,p7⟩:=zEy (t:=tgM 7) (e:=evM J Y (.call ne "empty_lists" (.cons (.pur (.bin .Add (.var 0) (.int 1))) .nil))) (src:=.items ((rngL 0 h).map .dat)) (s:=⟨mask none [] [some (.dat (.int w)),some (.dat (.int h)),x2,x3,x4,x5,x6]++[none],G⟩) ((rngL 0 h).map .dat)
  (λj s d=>∃ (o:Option W) (γ:Mem),s=⟨[some (.dat (.int w)),some (.dat (.int h)),x2,x3,x4,x5,x6,o],G++γ⟩/\d=(List.range j).map (λr=>W.loc (G.length+r*(w+2)+(w+1)))/\γ.length=j*(w+2)/\j<=h /\
   (∀ r c,r < j->c<=w->(G++γ)[G.length+r*(w+2)+c]?=some [])/\∀ r,r < j->(G++γ)[G.length+r*(w+2)+(w+1)]?=some (news (G.length+r*(w+2)) (w+1))) (λj s d _=>rfl) (λj x s d ew zz138=>by
   obtain⟨o,γ,p1,p2,p3,p4,p5,p6⟩:=zz138;subst p1 p2;have hj:j < h:=by
    have:=(zzg ew).1;rw[List.length_map,zBe] at this;exact this
   have lg:(G++γ).length=G.length+j*(w+2):=by rw[qj,p3]
   refine⟨by rw[List.length_map,length_range];omega,⟨[some (.dat (.int w)),some (.dat (.int h)),x2,x3,x4,x5,x6,some x],G++γ⟩,(.loc ((G++γ).length+(w+1)),(G++γ)++List.replicate (w+1) []++[news (G++γ).length (w+1)]),rfl,?_,some x,γ++List.replicate (w+1) []++[news (G++γ).length (w+1)],?_,?_,?_,by omega,?_,?_⟩
   .refine (zCE ee (zAE (zAm zKf (zBJ (zAZ rfl (zAb (zHJ (zAl rfl (zAY ?_))))))))).eq;exact he (w+1) (G++γ) _ (by omega) rfl
   .simp only [qJ]
   .rw [range_succ,xJ,lg];rfl
   .simp only [qj,length_replicate,length_singleton,p3];rw[Nat.succ_mul];omega
   .intro r c hr hc;by_cases q:r < j
    .rw [<- qJ,<- qJ];exact zAi (zAi (p5 r c q hc))
    .have:r=j:=by omega
     subst this;rw[<- qJ,<- qJ,getElem?_append_left (by rw[qj,length_replicate,lg];omega),getElem?_append_right (by rw[lg];omega),lg,getElem?_replicate];rw[if_pos (by omega)]
   .intro r hr;by_cases q:r < j
    .rw [<- qJ,<- qJ];exact zAi (zAi (p6 r q))
    .have:r=j:=by omega
     subst this;have ll:(G++γ++List.replicate (w+1) []).length=G.length+r*(w+2)+(w+1):=by rw[qj,length_replicate,lg]
     rw[<- qJ,<- qJ,getElem?_append_right (by rw[ll];exact le_refl _),ll,sub_self];show some (news (G++γ).length (w+1))=_;rw[lg]) ⟨none,[],by rw[append_nil];rfl,rfl,by simp,zero_le _,λr c hr=>absurd hr (by omega),λr hr=>absurd hr (by omega)⟩
 have lw:((rngL 0 h).map W.dat).length=h:=by rw[List.length_map,zBe]
 rw[lw] at p2 p3 p5 p6;subst p1;have e2:y=((List.range h).map (λr=>W.loc (G.length+r*(w+2)+(w+1))),G++γ):=Prod.ext p2 p7.symm;refine⟨y,N,e,by rw[p2,List.length_map,length_range];omega,?_⟩;rw[e2];have lg:(G++γ).length=G.length+h*(w+2):=by rw[qj,p3]
 show Q (.loc (G++γ).length,(G++γ)++[_]);rw[lg,qJ];refine hQ _ (by rw[qj,p3];rfl) ⟨λr c hr hc=>?_,λr hr=>?_,?_⟩
 .rw [<- qJ];exact zAi (p5 r c hr hc)
 .rw [<- qJ];exact zAi (p6 r hr)
 .rw [<- qJ,getElem?_append_right (by rw[lg];exact le_refl _),lg,sub_self]
  rfl
theorem zNK (e:atI ds i=some d)(h:Q (.dat d,G)):EvP (ixW (.dat (.tup ds)) (.dat (.int i)) G) Q:=by
 refine⟨_,?_,h⟩;show (atI ds i).map _=_
 simp_all
theorem zPU (h:drW G x=some d):drS G (some x::O)=some (d,false)::drS G O:=by
 show _::drS G O=_
 simp_all
structure Pz where
 c:Int
 r:Int
 x:D
 y:D
 f:D
 g:D
abbrev Pz.d (z:Pz):D:=.tup [.int z.c,.int z.r,z.x,z.y]
structure PzB (w h:Nat)(z:Pz):Prop where
 r0:0<=z.r
 r1:z.r < h
 c0:-1<=z.c
 c1:z.c < w
 n:noL z.d=true
 f:noL z.f=true
 g:noL z.g=true
noncomputable def fc (p:Pz->D)(zs:List Pz)(r c:Nat):List D:=(zs.filter λz=>decide (z.r=(r:Int))&&decide (z.c+1=(c:Int))).map p
theorem zKE (hz:PzB w h z):fc p (zs++[z])=more (fc p zs) z.r.toNat (z.c+1).toNat (p z):=by
 have r0:=hz.r0;have c0:=hz.c0;unfold fc more;grind
noncomputable def zOO (nf nr:Nat):MT:=.cons (.set 6 (.pur (.bin .Add (.ix (.var 5) (.int 0)) (.int 1)))) (.cons (.app (.ix (.ix (.var 3) (.ix (.var 5) (.pur (.int 1)))) (.var 6)) (.pur (.call nf "fall" (.cons (.var 5) .nil)))) (.cons (.app (.ix (.ix (.var 4) (.ix (.var 5) (.pur (.int 1)))) (.var 6)) (.pur (.call nr "right" (.cons (.var 5) .nil)))) .nil))
theorem zJd {J:Gm}{Y:Dm}{nf nr:Nat}{Ff Fr:List D->Option R}(ef:J.fns[nf]?=some (("fall":Str),Ff))(er:J.fns[nr]?=some (("right":Str),Fr)){w h a b:Nat}{z:Pz}(hf:Ff [z.d]=some (z.f,.cl))(hr:Fr [z.d]=some (z.g,.cl)){f g:Nat->Nat->List D}{x0 x1 x2 x6:Option W}{G:Mem}{Q:OutM->Prop}
  (hz:PzB w h z) (tf:zA6 G a w h f) (tg:zA6 G b w h g) (ab:a+h*(w+2) < b) (lf:∀ r c,(f r c).length<=10000) (lg:∀ r c,(g r c).length<=10000)
  (hQ:∀ G':Mem,G'.length=G.length->(∀ m:Nat,m < a->G'[m]?=G[m]?)->(∀ m:Nat,b+h*(w+2) < m->G'[m]?=G[m]?)->zA6 G' a w h (more f z.r.toNat (z.c+1).toNat z.f)->zA6 G' b w h (more g z.r.toNat (z.c+1).toNat z.g)->Q (.nx ⟨[x0,x1,x2,some (.loc (a+h*(w+2))),some (.loc (b+h*(w+2))),some (.dat z.d),some (.dat (.int (z.c+1)))],G'⟩)) :
  EvP (evSs' J Y (zOO nf nr) ⟨[x0,x1,x2,some (.loc (a+h*(w+2))),some (.loc (b+h*(w+2))),some (.dat z.d),x6],G⟩) Q:=by
 have r0:=hz.r0;have r1:=hz.r1;have c0:=hz.c0;have c1:=hz.c1;have eR:z.r=((z.r.toNat:Nat):Int):=by omega
 have eC:z.c+1=(((z.c+1).toNat:Nat):Int):=by omega
 have hR:z.r.toNat < h:=by omega
 have hC:(z.c+1).toNat<=w:=by omega
 have atT:∀ (a:Nat),atI ((List.range h).map λr=>W.loc (a+r*(w+2)+(w+1))) z.r=some (.loc (a+z.r.toNat*(w+2)+(w+1))):=λa=>by
  have q:atI ((List.range h).map λr=>W.loc (a+r*(w+2)+(w+1))) ((z.r.toNat:Nat):Int)=some (.loc (a+z.r.toNat*(w+2)+(w+1))):=zCZ (by rw[getElem?_map,getElem?_range hR];rfl);rw[<- eR] at q;exact q
 have atR:∀ (a:Nat),atI (news (a+z.r.toNat*(w+2)) (w+1)) (z.c+1)=some (.loc (a+z.r.toNat*(w+2)+(z.c+1).toNat)):=λa=>by
  have q:atI (news (a+z.r.toNat*(w+2)) (w+1)) (((z.c+1).toNat:Nat):Int)=some (.loc (a+z.r.toNat*(w+2)+(z.c+1).toNat)):=zCZ (zOJ (by omega));rw[<- eC] at q;exact q
 have pc1:atI [D.int z.c,.int z.r,z.x,z.y] 1=some (.int z.r):=rfl;have hn2:z.r.toNat*(w+2)+(z.c+1).toNat < h*(w+2):=by
  have:=Nat.mul_le_mul_right (w+2) (show z.r.toNat+1<=h from hR);rw[Nat.succ_mul] at this;omega
 unfold zOO;refine zAC (zBI (zAm (zAu (zAu (zAu (zAu (zAu (zCp rfl)))))) ?_));refine zBJ (zEI (zAZ rfl (zAb (zQ3 (d:=.int z.c) rfl (zAb (zHJ (zAl rfl (zAS ?_))))))));(walk_at "s");refine zAC (zEg (m_ix (m_ix (zAF rfl (m_ix (zAF rfl (zAm rfl (zAb (zAl rfl ?_)))))))));refine zNK pc1 (zB4 tf.top (atT a) (zAF rfl (zB4 (tf.row _ hR) (atR a) ?_)));refine zAm (zAu (zAu (zAu (zAu (zAu (zCp rfl)))))) ?_;refine zA5 ef (zAk (zAZ rfl (n_cl (zBW ?_))));refine⟨_,hf,?_⟩;refine n_cl (zAl hz.f ⟨_,_,rfl,tf.cell _ _ hR hC,by rw[List.length_map];exact lf _ _,zAS ?_⟩);have tf2:=tf.more (q:=z.f) hR hC;have tg2:=tg.other (n:=a+z.r.toNat*(w+2)+(z.c+1).toNat) (x:=((f z.r.toNat (z.c+1).toNat).map .dat)++[.dat z.f]) (by omega);have l2:(G.set (a+z.r.toNat*(w+2)+(z.c+1).toNat) (((f z.r.toNat (z.c+1).toNat).map .dat)++[.dat z.f])).length=G.length:=length_set;have o1:∀ m:Nat,m < a->(G.set (a+z.r.toNat*(w+2)+(z.c+1).toNat) (((f z.r.toNat (z.c+1).toNat).map .dat)++[.dat z.f]))[m]?=G[m]?:=λm hm=>getElem?_set_ne (by omega)
 have o2:∀ m:Nat,b+h*(w+2) < m->(G.set (a+z.r.toNat*(w+2)+(z.c+1).toNat) (((f z.r.toNat (z.c+1).toNat).map .dat)++[.dat z.f]))[m]?=G[m]?:=λm hm=>getElem?_set_ne (by omega)
 have go:∀ O5:Mem,O5.length=G.length->(∀ m:Nat,m < a->O5[m]?=G[m]?)->(∀ m:Nat,b+h*(w+2) < m->O5[m]?=G[m]?)->zA6 O5 a w h (more f z.r.toNat (z.c+1).toNat z.f)->zA6 O5 b w h g ->
   EvP (evSs' J Y (.cons (.app (.ix (.ix (.var 4) (.ix (.var 5) (.pur (.int 1)))) (.var 6)) (.pur (.call nr "right" (.cons (.var 5) .nil)))) .nil) ⟨[x0,x1,x2,some (.loc (a+h*(w+2))),some (.loc (b+h*(w+2))),some (.dat z.d),some (.dat (.int (z.c+1)))],O5⟩) Q:=by
  intro O5 e1 e2 e3 tf2 tg2;refine zAC (zEg (m_ix (m_ix (zAF rfl (m_ix (zAF rfl (zAm rfl (zAb (zAl rfl ?_)))))))));refine zNK pc1 (zB4 tg2.top (atT b) (zAF rfl (zB4 (tg2.row _ hR) (atR b) ?_)));refine zAm (zAu (zAu (zAu (zAu (zAu (zCp rfl)))))) ?_;refine zA5 er (zAk (zAZ rfl (n_cl (zBW ?_))));refine⟨_,hr,?_⟩;refine n_cl (zAl hz.g ⟨_,_,rfl,tg2.cell _ _ hR hC,by rw[List.length_map];exact lg _ _,zAS (zAx ?_)⟩);refine hQ _ (by rw[length_set];exact e1) (λm hm=>?_) (λm hm=>?_) (tf2.other (by omega)) (tg2.more hR hC)
  .rw [getElem?_set_ne (by omega)];exact e2 m hm
  .rw [getElem?_set_ne (by omega)];exact e3 m hm
 exact go _ l2 o1 o2 tf2 tg2
noncomputable def zGe (na nf nr nw ne:Nat):MT:=.cons (.setC 3 (tabE ne)) (.cons (.setC 4 (tabE ne)) (.cons (.for1 5 (.it (.pur (.call na "all_pieces" (.cons (.var 0) (.cons (.var 1) (.cons (.var 2) .nil)))))) (zOO nf nr)) (.cons (.ret (.comp 7 [] "row" (.rng (.var 1)) (.pur (.call nw "row_of_shares" (.cons (.ix (.var 3) (.var 7)) (.cons (.ix (.var 4) (.var 7)) .nil)))))) .nil)))
noncomputable def zBj (rz:Nat->List D)(k:Nat):Mem:=(List.range k).map λr=>(rz r).map W.dat
theorem zJU:∀ {ds:List D},(∀ d∈ds,noL d=true)->noLs ds=true
 | [],_=>rfl
 | d::ds,h=>by rw[noLs,h d q8,zJU λd m=>h d (qY _ m)];rfl
theorem zRp (zs:List Pz)(r c:Nat):(fc p zs r c).length<=zs.length:=by unfold fc;rw[List.length_map];exact length_filter_le _ _
structure ZOk (Fa Ff Fr Fw:List D->Option R)(w h:Nat)(sh:D)(zs:List Pz)(rz:Nat->List D):Prop where
 w2:w<=6
 h2:h<=6
 zl:zs.length<=5000
 all:Fa [.int w,.int h,sh]=some (.lst (zs.map Pz.d),.fr)
 b:∀ z∈zs,PzB w h z
 f:∀ z∈zs,Ff [z.d]=some (z.f,.cl)
 r:∀ z∈zs,Fr [z.d]=some (z.g,.cl)
 w:∀ r,r < h->Fw [.lst ((List.range (w+1)).map λc=>.lst (fc Pz.f zs r c)),.lst ((List.range (w+1)).map λc=>.lst (fc Pz.g zs r c))]=some (.lst (rz r),.fr)
 n:∀ r,r < h->noLs (rz r)=true
theorem zIy (ea:J.fns[na]?=some (("all_pieces":Str),Fa))(ef:J.fns[nf]?=some (("fall":Str),Ff))(er:J.fns[nr]?=some (("right":Str),Fr))(ew:J.fns[nw]?=some (("row_of_shares":Str),Fw))(ee:Y[ne]?=some (("empty_lists":Str),Fe))
  (he:zIA Fe)        (ok:ZOk Fa Ff Fr Fw w h sh zs rz) (dx:drW G x=some sh)
  (hQ:∀ γ:Mem,Q (.loc ((G++γ).length+h),G++γ++zBj rz h++[news (G++γ).length h])):EvP (zBE 3 7 (evSs' J Y (zGe na nf nr nw ne)) [.dat (.int w),.dat (.int h),x] G) Q:=by
 have pcs:=ok.b;have w2:=ok.w2;have h2:=ok.h2;have zl:=ok.zl;refine zCU rfl (by decide) ?_;unfold zGe;show EvP (evSs' J Y _ ⟨[some (.dat (.int w)),some (.dat (.int h)),some x,none,none,none,none],G⟩) _;refine zAC (zGb (zMo ee he w2 h2 λY1 g1 t1=>zAS ?_));(walk_at "s");refine zAC (zGb (zMo ee he w2 h2 λO4 g2 t2=>zAS ?_));(walk_at "s");have ta:=t1.app O4;have l12:(G++Y1).length=G.length+h*(w+2)+1:=by rw[qj,g1];omega
 rw[l12] at t2;rw[l12];have dx2:drW (G++Y1++O4) x=some (sh):=zMW (λm ws e=>zAi (zAi e)) dx;refine zAC (zDU (zDT (zAm (zCp (zCp (zPU dx2))) ?_)));refine zA5 ea (zAk (zAZ rfl (n_cl (zAk (zAZ rfl (n_cl (zAk (zAZ (d:=sh) rfl (n_cl (zBW ?_)))))))))) ;refine⟨_,ok.all,?_⟩;refine n_fr (zKz (zJU λd m=>let ⟨z,hz,e⟩:=mem_map.mp m;e▸(pcs z hz).n) ⟨_,rfl,?_⟩);have lb:(G++Y1++O4).length=G.length+h*(w+2)+1+h*(w+2)+1:=by rw[qj,l12,g2];omega
 dsimp only;refine zEu (s:=⟨_,_⟩) ((zs.map Pz.d).map .dat) (λj s=>∃ (o5 o6:Option W) (G':Mem),s=⟨[some (.dat (.int w)),some (.dat (.int h)),some x,some (.loc (G.length+h*(w+2))),some (.loc (G.length+h*(w+2)+1+h*(w+2))),o5,o6],G'⟩/\G'.length=(G++Y1++O4).length+1/\(∀ m:Nat,m < G.length->G'[m]?=G[m]?)/\G'[(G++Y1++O4).length]?=some ((zs.map Pz.d).map .dat) /\
  zA6 G' G.length w h (fc Pz.f (zs.take j))/\zA6 G' (G.length+h*(w+2)+1) w h (fc Pz.g (zs.take j))) ?_ ?_ ?_ ⟨none,none,G++Y1++O4++[(zs.map Pz.d).map .dat],rfl,by rw[qj];rfl,?_,?_,?_,?_⟩
 .rintro j s ⟨o5,o6,G',rfl,m1,m2,m3,m4,m5⟩;exact m3
 .rintro j y s ey ⟨o5,o6,G',rfl,m1,m2,m3,m4,m5⟩;rw[map_map,getElem?_map] at ey;obtain⟨z,ez2,rfl⟩:=x9.mp ey;have hz:=pcs z (mem_of_getElem? ez2);have et:zs.take (j+1)=zs.take j++[z]:=by rw[List.take_add_one,ez2];rfl
  refine⟨_,rfl,?_⟩;dsimp only;(walk_at "s");have ll:∀ (p:Pz->D) r c,(fc p (zs.take j) r c).length<=10000:=λp r c=>by
   have:=zRp (p:=p) (zs.take j) r c;rw[length_take] at this;omega
  refine zJd ef er (ok.f z (mem_of_getElem? ez2)) (ok.r z (mem_of_getElem? ez2)) hz m4 m5 (by omega) (ll _) (ll _) fun μ2 e1 e2 e3 t3 t4=>?_
  rw[<- zKE (p:=Pz.f) hz,<- et] at t3;rw[<- zKE (p:=Pz.g) hz,<- et] at t4;exact⟨_,_,μ2,rfl,by rw[e1];exact m1,λm hm=>by rw[e2 m hm];exact m2 m hm,by rw[e3 _ (by rw[lb];omega)];exact m3,t3,t4⟩
 .rintro s ⟨o5,o6,G',rfl,m1,m2,m3,m4,m5⟩;have el:((zs.map Pz.d).map W.dat).length=zs.length:=by rw[List.length_map,List.length_map]
  rw[el,List.take_length] at m4 m5;refine zAS ?_;refine zAC (zBt (zEo (zC9 (zAF (w:=.dat (.int h)) rfl ⟨(h:Int),rfl,by omega,?_⟩))));rw[toNat_natCast];obtain⟨y,s',N,e,⟨o,p1,p2,p3⟩,p4⟩:=zEy (t:=tgM 7) (e:=evM J Y (.pur (.call nw "row_of_shares" (.cons (.ix (.var 3) (.var 7)) (.cons (.ix (.var 4) (.var 7)) .nil))))) (src:=.items ((rngL 0 h).map .dat)) (s:=⟨mask none [] [some (.dat (.int w)),some (.dat (.int h)),some x,some (.loc (G.length+h*(w+2))),some (.loc (G.length+h*(w+2)+1+h*(w+2))),o5,o6]++[none],G'⟩) ((rngL 0 h).map .dat)
   (λj s d=>∃ o:Option W,s=⟨[some (.dat (.int w)),some (.dat (.int h)),some x,some (.loc (G.length+h*(w+2))),some (.loc (G.length+h*(w+2)+1+h*(w+2))),o5,o6,o],G'++zBj rz j⟩/\d=news G'.length j/\j<=h) (λj s d _=>rfl) (λj y s d ey zz139=>by
    obtain⟨o,p1,p2,p3⟩:=zz139;subst p1 p2;have hj:j < h:=by
     have:=(zzg ey).1;rw[List.length_map,zBe] at this;exact this
    have ey2:y=.dat (.int (j:Int)):=by
     unfold rngL at ey;rw[map_map,getElem?_map,getElem?_range hj] at ey;have:=(xj ey).symm;rw[this];simp
    subst ey2;have t5:=m4.app (zBj rz j);have t6:=m5.app (zBj rz j);have lr:(G'++zBj rz j).length=G'.length+j:=by rw[qj];unfold zBj;rw[List.length_map,length_range]
    refine⟨by rw[zCy];omega,⟨[some (.dat (.int w)),some (.dat (.int h)),some x,some (.loc (G.length+h*(w+2))),some (.loc (G.length+h*(w+2)+1+h*(w+2))),o5,o6,some (.dat (.int (j:Int)))],G'++zBj rz j⟩,(.loc (G'++zBj rz j).length,(G'++zBj rz j)++[(rz j).map .dat]),rfl,?_,some (.dat (.int (j:Int))),?_,?_,by omega⟩
    .refine (zAm (Q:=λr=>r=(W.loc (G'++zBj rz j).length,(G'++zBj rz j)++[(rz j).map .dat])) (zCp (zCp (zAu ((zKe (zMp t5)).trans (congrArg _ ((zKe (zMp t6)).trans (congrArg _ (zAu (zAu (zCp rfl))))))))) ) ?_).eq;refine zA5 ew (zAk (zEI (zAZ rfl (zAZ rfl ?_))));refine zEE (d:=.lst ((List.range (w+1)).map λc=>.lst (fc Pz.f zs j c))) (zCZ (by rw[getElem?_map,getElem?_range hj];rfl)) (n_cl (zAk (zEI (zAZ rfl (zAZ rfl ?_)))));refine zEE (d:=.lst ((List.range (w+1)).map λc=>.lst (fc Pz.g zs j c))) (zCZ (by rw[getElem?_map,getElem?_range hj];rfl)) (n_cl (zBW ?_));exact⟨_,ok.w j hj,n_fr (zKz (ok.n j hj) rfl)⟩
    .have:zBj rz (j+1)=zBj rz j++[(rz j).map .dat]:=by
      unfold zBj;rw[range_succ,xJ]
      rfl
     rw[this,qJ]
    .rw [zD0,lr]) ⟨none,by unfold zBj;rw[List.range_zero,map_nil,append_nil];rfl,rfl,zero_le _⟩
  have lw:((rngL 0 h).map W.dat).length=h:=by rw[List.length_map,zBe]
  rw[lw] at p1 p2;subst p1;have e2:y=(news G'.length h,G'++zBj rz h):=Prod.ext p2 p4.symm;refine⟨y,N,e,by rw[p2,zCy];omega,?_⟩;rw[e2];have em:∃ γ:Mem,G'=G++γ:=by
   refine⟨G'.drop G.length,?_⟩;have:G=G'.take G.length:=by
    apply List.ext_getElem?;intro m;rw[List.getElem?_take];by_cases q:m < G.length
    .rw [if_pos q];exact(m2 m q).symm
    .rw [if_neg q,getElem?_eq_none (by omega)]
   exact(List.take_append_drop G.length G').symm.trans (congrArg (λl=>l++G'.drop G.length) this.symm)
  obtain⟨γ,rfl⟩:=em;have q:=hQ γ;have lr:(G++γ++zBj rz h).length=(G++γ).length+h:=by rw[qj];unfold zBj;rw[List.length_map,length_range]
  show KFM Q (.rt (.loc (G++γ++zBj rz h).length,_));rw[lr];exact q
 .intro m hm;rw[qJ,qJ,getElem?_append_left hm]
 .rw [getElem?_append_right (le_refl _),sub_self];rfl
 .exact ta.app _
 .exact t2.app _
abbrev Lp:=List (Nat×List D)
structure Ll (G:Mem)(n:Nat)(l:Lp):Prop where
 top:G[n]?=some (l.map λp=>.loc p.1)
 row:∀ p∈l,G[p.1]?=some (p.2.map .dat)
abbrev llD (l:Lp):D:=.lst (l.map λp=>.lst p.2)
theorem Ll.dr (e:Ll G n l):drW G (.loc n)=some (llD l):=zGH e.top (zFG _ _ l λp hp=>zKc (e.row p hp))
theorem Ll.keep (e:Ll G n l)(k1:G'[n]?=G[n]?)(k2:∀ p∈l,G'[p.1]?=G[p.1]?):Ll G' n l:=⟨by rw[k1];exact e.top,λp hp=>by rw[k2 p hp];exact e.row p hp⟩
theorem Ll.app (e:Ll G n l)(γ:Mem):Ll (G++γ) n l:=⟨zAi e.top,λp hp=>zAi (e.row p hp)⟩
theorem Ll.lt (e:Ll G n l):n < G.length/\∀ p∈l,p.1 < G.length:=⟨(zzg e.top).1,λp hp=>(zzg (e.row p hp)).1⟩
theorem Ll.set (e:Ll G n l)(h:m≠n)(h2:∀ p∈l,m≠p.1):Ll (G.set m ws) n l:=e.keep (getElem?_set_ne h) λp hp=>getElem?_set_ne (h2 p hp)
theorem zAJ {i:Nat}(e:O[i]?=some (some w))(h:drW G w=some d):(drS G O)[i]?=some (some (d,false)):=by
 unfold drS
 simp_all
theorem zAM :drW G (.dat d)=some d:=by unfold drW;rw[sbW]
theorem zBm (e:G[n]?=some (ds.map .dat)):drW G (.loc n)=some (.lst ds):=by unfold drW;exact zKc e
noncomputable def lpT (b:Nat)(rz:Nat->List D)(h:Nat):Lp:=(List.range h).map λr=>(b+r,rz r)
theorem zJc (hp:p∈lpT b rz h):∃ r,r < h/\p=(b+r,rz r):=by
 obtain⟨r,hr,rfl⟩:=mem_map.mp hp;exact⟨r,mem_range.mp hr,rfl⟩
theorem zDv (rz:Nat->List D)(h:Nat):(zBj rz h).length=h:=by unfold zBj;rw[List.length_map,length_range]
theorem zQq (G:Mem)(rz:Nat->List D)(h:Nat):Ll (G++zBj rz h++[news G.length h]) (G.length+h) (lpT G.length rz h):=by
 refine⟨?_,λp hp=>?_⟩
 .rw [getElem?_append_right (by rw[qj,zDv];omega),qj,zDv,sub_self];unfold lpT news;simp
 .obtain ⟨r,hr,rfl⟩:=zJc hp;dsimp only;rw[getElem?_append_left (by rw[qj,zDv];omega)];unfold zBj
  simp_all
end DL
end
section
namespace DL
open PySem Spec PyProof.Rows L2
section
variable {J:Gm}{Y:Dm}{s:Mst}
theorem zLc (h:EvP (evM J Y a s) λx=>∃ c ns l w,x.1=.obj c ns l/\(c,fl,none)∈J.ob/\(ns.zip l).lookup fl=some w/\Q (w,x.2)):EvP (evM J Y (.fld a fl) s) Q:=by
 obtain⟨⟨x,m⟩,e,c,ns,l,w,rfl,h1,h2,q⟩:=h;refine⟨_,?_,q⟩;show fldM J.ob fl _ s=_;unfold fldM;rw[e,qx]
 simp_all
theorem zBQ (h:EvP (evM J Y a s) λx=>∃ c ns n ws w,x.1=.ob c ns n/\(c,fl,none)∈J.ob/\x.2[n]?=some ws/\(ns.zip ws).lookup fl=some w/\Q (w,x.2)):EvP (evM J Y (.fld a fl) s) Q:=by
 obtain⟨⟨x,m⟩,e,c,ns,n,ws,w,rfl,h1,h2,h3,q⟩:=h;refine⟨_,?_,q⟩;show fldM J.ob fl _ s=_;unfold fldM;rw[e,qx]
 simp_all
theorem zRw (h:EvP (evE J a O) λx=>∃ c ns l d,x.1=.obj c ns l/\(c,fl,none)∈J.ob/\(ns.zip l).lookup fl=some d/\Q (d,.cl)):EvP (evE J (.fld a fl) O) Q:=by
 obtain⟨⟨x,k⟩,e,c,ns,l,d,rfl,h1,h2,q⟩:=h;refine⟨_,?_,q⟩;show one (evE J a) (fldD J.ob fl) O=_;unfold one;rw[e,qx];show (if (c,fl,none)∈J.ob then _ else _)=_;rw[if_pos h1,h2]
 rfl
theorem zCl (h:EvP (evM J Y a s) λx=>∃ c n y F,clsW m x.1=some c/\ix.lookup c=some n/\Y[n]?=some (y,F)/\spec.lookup y=some (.mth c m)/\EvP (evMs J Y es ⟨s.O,x.2⟩) λws=>EvP (F (x.1::ws.1) ws.2) Q):EvP (evM J Y (.mth ix m a es) s) Q:=by
 obtain⟨x,e1,c,n,y,F,e2,e3,e4,e5,ws,e6,r,e7,q⟩:=h;refine⟨r,?_,q⟩;show mthM Y ix m _ _ s=_;unfold mthM
 simp_all
theorem m_mk (e1:Y[n]?=some (y,F))(e2:spec.lookup y=some (.mk c kw))(h:EvP (evMs J Y es s) λws=>EvP (F (ws.1++zOI d) ws.2) Q):EvP (evM J Y (.mk n c kw d es) s) Q:=by
 obtain⟨ws,e3,r,e4,q⟩:=h;refine⟨r,?_,q⟩;show mkM Y n c kw d _ s=_;unfold mkM
 simp_all
theorem zJb (h:Q (.di t s.G.length,s.G++[[]])):EvP (evM J Y (.dnew t) s) Q:=⟨_,rfl,h⟩
theorem zSh (h:EvP (evM J Y a s) λx=>EvP (evM J Y b ⟨s.O,x.2⟩) λj=>∃ t n ks ws u,x.1=.di t n/\kI j.1=some ks/\ks.length=lenK t/\j.2[n]?=some ws/\zAs ks ws=some u/\Q (u,j.2)):EvP (evM J Y (.dix a b) s) Q:=by
 obtain⟨⟨x,m⟩,e1,j,e2,t,n,ks,ws,u,rfl,e3,e4,e5,e6,q⟩:=h;refine⟨_,?_,q⟩;show dixM _ _ s=_;unfold dixM;rw[e1,qx]
 simp_all
theorem zNC (h:EvP (evM J Y a s) λx=>∃ n,x.1=.di false n/\EvP (evM J Y b ⟨s.O,x.2⟩) λj=>∃ ks ws u,kI j.1=some ks/\ks.length=1/\j.2[n]?=some ws/\zAs ks ws=some u/\Q (u,j.2.set n (zBy ks ws))):EvP (evM J Y (.dpop a b) s) Q:=by
 obtain⟨⟨x,m⟩,e1,n,rfl,j,e2,ks,ws,u,e3,e4,e5,e6,q⟩:=h;refine⟨_,?_,q⟩;show zMY _ _ s=_;unfold zMY;rw[e1,qx]
 simp_all
theorem zSg (h:EvP (evM J Y a s) λx=>∃ n,x.1=.loc n/\EvP (evM J Y b ⟨s.O,x.2⟩) λr=>∃ k ws is j,r.1=.dat (.int k)/\r.2[n]?=some ws/\zFR ws=some is/\posI k is=some j/\Q (.dat (.int (j:Int)),r.2)):EvP (evM J Y (.idx a b) s) Q:=by
 obtain⟨⟨x,m⟩,e1,n,rfl,⟨r,m2⟩,e2,k,ws,is,j,rfl,e3,e4,e5,q⟩:=h;refine⟨_,?_,q⟩;show idxM _ _ s=_;unfold idxM;rw[e1,qx];dsimp only;rw[e2,qx]
 simp_all
theorem zSf (h:EvP (evM J Y a s) λx=>∃ n ws,x.1=.loc n/\x.2[n]?=some ws/\Q (.loc x.2.length,x.2++[ws])):EvP (evM J Y (.lcp a) s) Q:=by
 obtain⟨⟨x,m⟩,e1,n,ws,rfl,e2,q⟩:=h;refine⟨_,?_,q⟩;show lcpM (evM J Y a) s=_;unfold lcpM;rw[e1,qx];dsimp only at e2 ⊢;rw[e2,qx]
theorem zSe (h:EvP (evM J Y a s) λx=>∃ n ws,x.1=.loc n/\x.2[n]?=some ws/\Q (.dat (.int ws.length),x.2)):EvP (evM J Y (.len a) s) Q:=by
 obtain⟨⟨x,m⟩,e1,n,ws,rfl,e2,q⟩:=h;refine⟨_,?_,q⟩;show lenM _ s=_;unfold lenM;rw[e1,qx]
 simp_all
theorem zSJ (h:EvP (evM J Y a s) λx=>EvP (evM J Y b ⟨s.O,x.2⟩) λy=>∃ t n ks ws,y.1=.di t n/\kI x.1=some ks/\ks.length=lenK t/\y.2[n]?=some ws/\Q (!(zAs ks ws).isSome,y.2)):EvP (evT J Y (.nid a b) s) Q:=by
 obtain⟨x,e1,⟨y,m⟩,e2,t,n,ks,ws,rfl,e3,e4,e5,q⟩:=h;refine⟨_,?_,q⟩;show asBM _ s=_;have:twoM (evM J Y a) (evM J Y b) nidW s=some (.dat (.bl !(zAs ks ws).isSome),m):=by
  unfold twoM
  simp_all
  unfold nidW
  simp_all
 unfold asBM;rw[this]
theorem zHU (h:EvP (evM J Y t s) λx=>∃ n,x.1=.loc n/\EvP (evM J Y e ⟨s.O,x.2⟩) λr=>∃ k ws is j,r.1=.dat (.int k)/\r.2[n]?=some ws/\zFR ws=some is/\posI k is=some j/\Q (.nx ⟨s.O,r.2.set n (ws.eraseIdx j)⟩)):EvP (evS' J Y (.rem t e) s) Q:=by
 obtain⟨⟨x,m⟩,e1,n,rfl,⟨r,m2⟩,e2,k,ws,is,j,rfl,e3,e4,e5,q⟩:=h;refine⟨_,?_,q⟩;show lmM (evM J Y t) (evM J Y e) remW s=_;unfold lmM;rw[e1,qx];dsimp only
 simp_all
 unfold remW
 simp_all
theorem zP4 (h:EvP (evM J Y t s) λx=>∃ n ws,x.1=.loc n/\x.2[n]?=some ws/\Q (.nx ⟨s.O,x.2.set n ws.reverse⟩)):EvP (evS' J Y (.rev t) s) Q:=by
 obtain⟨⟨x,m⟩,e1,n,ws,rfl,e2,q⟩:=h;refine⟨_,?_,q⟩;show lm0M _ List.reverse s=_;unfold lm0M;rw[e1,qx]
 simp_all
theorem zMr (h:EvP (evM J Y t s) λx=>∃ n,x.1=.loc n/\EvP (evM J Y k ⟨s.O,x.2⟩) λj=>EvP (evM J Y e ⟨s.O,j.2⟩) λr=>∃ (i:Int) (ws:List W),j.1=.dat (.int i)/\r.2[n]?=some ws/\(0<=i/\i<=ws.length/\ws.length<=10000)/\Q (.nx ⟨s.O,r.2.set n (ws.take i.toNat++r.1::ws.drop i.toNat)⟩)):EvP (evS' J Y (.ins t k e) s) Q:=by
 obtain⟨⟨x,m⟩,e1,n,rfl,⟨j,m2⟩,e2,r,e3,i,ws,rfl,e4,e5,q⟩:=h;refine⟨_,?_,q⟩;show insM (evM J Y t) (evM J Y k) (evM J Y e) s=_;unfold insM;rw[e1,qx];dsimp only;rw[e2,qx,e3]
 simp_all
theorem zNj (h:EvP (evM J Y a s) λx=>∃ c ns n ws i,x.1=.ob c ns n/\((c,f,none)∈J.ob/\ns.contains f=true/\ns.length<=100)/\x.2[n]?=some ws/\(ns.zip ws).lookup f=some (.dat (.int i))/\EvP (evM J Y e ⟨s.O,x.2⟩) λr=>∃ j ws',r.1=.dat (.int j)/\r.2[n]?=some ws'/\Q (.nx ⟨s.O,r.2.set n (setA f (.dat (.int (i+j))) ns ws')⟩)):EvP (evS' J Y (.faug a f e) s) Q:=by
 obtain⟨⟨x,m⟩,e1,c,ns,n,ws,i,rfl,e2,e3,e4,⟨r,m2⟩,e5,j,ws',rfl,e6,q⟩:=h;refine⟨_,?_,q⟩;show zME J.ob (evM J Y a) f (evM J Y e) s=_;unfold zME;rw[e1,qx];dsimp only at e3 ⊢;rw[if_pos e2,e3,qx,e4,qx,e5,qx];rw[e6,qx]
 rfl
theorem zNi (h:EvP (evM J Y t s) λx=>EvP (evM J Y k ⟨s.O,x.2⟩) λj=>∃ n i ws a,x.1=.loc n/\j.1=.dat (.int i)/\j.2[n]?=some ws/\atI ws i=some (.dat (.int a))/\EvP (evM J Y e ⟨s.O,j.2⟩) λr=>∃ b ws' m,r.1=.dat (.int b)/\r.2[n]?=some ws'/\ixN ws'.length i=some m/\Q (.nx ⟨s.O,r.2.set n (ws'.set m (.dat (.int (a+b))))⟩)):EvP (evS' J Y (.iaug t k e) s) Q:=by
 obtain⟨⟨x,m⟩,e1,⟨j,m1⟩,e2,n,i,ws,a,rfl,rfl,e3,e4,⟨r,m2⟩,e5,b,ws',p,rfl,e6,e7,q⟩:=h;refine⟨_,?_,q⟩;show zLn (evM J Y t) (evM J Y k) (evM J Y e) s=_;unfold zLn;rw[e1,qx,e2,qx];dsimp only at e3 ⊢;rw[e3,qx,e4,qx,e5,qx];show ((some _:Option W).bind _)=_;rw[qx];dsimp only at e6 ⊢;rw[e6,qx,e7]
 rfl
theorem zGc (h:EvP (evM J Y e s) λr=>EvP (evM J Y t ⟨s.O,r.2⟩) λx=>EvP (evM J Y k ⟨s.O,x.2⟩) λj=>∃ b n ks ws,x.1=.di b n/\kI j.1=some ks/\j.2[n]?=some ws/\(ks.length=lenK b/\ws.length<=10000)/\Q (.nx ⟨s.O,j.2.set n (zB1 ks j.1 r.1 ws)⟩)):EvP (evS' J Y (.dput t k e) s) Q:=by
 obtain⟨r,e1,⟨x,m⟩,e2,j,e3,b,n,ks,ws,rfl,e4,e5,e6,q⟩:=h;refine⟨_,?_,q⟩;show zMX _ _ (evM J Y e) s=_;unfold zMX;rw[e1,qx,e2,qx,e3]
 simp_all
theorem zJs {c:Str}{n:Nat}{L:List (Str×(Mst->Option MR))}{ws:List W}{G:Mem}{Q:MR->Prop}(h1:ws.length=n)(hm:mutK (L.map (·.1))=false)(h:EvP (zEC L ⟨none::ws.map some,G⟩) λz=>Q (.obj c (L.map (·.1)) z.1,z.2)):EvP (zEZ c n L ws G) Q:=by
 obtain⟨z,e,q⟩:=h;exact⟨_,by unfold zEZ;rw[if_pos h1,e];unfold mkR;rw[hm];rfl,q⟩
theorem zLm {c:Str}{n:Nat}{L:List (Str×(Mst->Option MR))}{ws:List W}{G:Mem}{Q:MR->Prop}(h1:ws.length=n)(hm:mutK (L.map (·.1))=true)(h:EvP (zEC L ⟨none::ws.map some,G⟩) λz=>Q (.ob c (L.map (·.1)) z.2.length,z.2++[z.1])):EvP (zEZ c n L ws G) Q:=by
 obtain⟨z,e,q⟩:=h;exact⟨_,by unfold zEZ;rw[if_pos h1,e];unfold mkR;rw[hm];rfl,q⟩
theorem zBS (h:EvP (g s) λw=>EvP (zEC r ⟨s.O,w.2⟩) λz=>Q (w.1::z.1,z.2)):EvP (zEC ((x,g)::r) s) Q:=by
 obtain⟨w,e1,z,e2,q⟩:=h;exact⟨_,by unfold zEC;dsimp only;rw[e1,qx,e2];rfl,q⟩
theorem zJt (h:Q ([],s.G)):EvP (zEC [] s) Q:=⟨_,rfl,h⟩
end
def wfD (ws:List W):Prop:=∀ e∈ws,∃ d u ks,e=.tup [d,u]/\kI d=some ks
theorem zGI :∀ {ws:List W},wfD ws->zAs k (ws++[.tup [d,u]])=(zAs k ws).or (if kI d=some k then some u else none)
 | [],_=>by show (if kI d=some k then some u else none)=_;rfl
 | e::ws,h=>by
  obtain⟨d',u',ks,rfl,_⟩:=h e q8;show (if kI d'=some k then some u' else zAs k (ws++[.tup [d,u]]))=((if kI d'=some k then some u' else zAs k ws)).or _;by_cases q:kI d'=some k
  .rw [if_pos q,if_pos q];rfl
  .rw [if_neg q,if_neg q];exact zGI λx hx=>h x (qY _ hx)
theorem zHy :∀ {ws:List W},wfD ws->zAs k (ws.map (repW k' u))=if k=k' then (zAs k ws).map (λ_=>u) else zAs k ws
 | [],_=>by show (none:Option W)=_;split<;>rfl
 | e::ws,h=>by
  obtain⟨d',u',ks,rfl,hk⟩:=h e q8;have ih:=zHy (k:=k) (k':=k') (u:=u) (ws:=ws) λx hx=>h x (qY _ hx)
  rw[map_cons,show repW k' u (.tup [d',u'])=if kI d'=some k' then .tup [d',u] else .tup [d',u'] from rfl,show zAs k (.tup [d',u']::ws)=if kI d'=some k then some u' else zAs k ws from rfl];by_cases q:kI d'=some k'
  .rw [if_pos q,show ∀ l,zAs k (.tup [d',u]::l)=if kI d'=some k then some u else zAs k l from λ_=>rfl];by_cases z:k=k'
   .subst z;rw[if_pos q,if_pos rfl,if_pos q];rfl
   .have nq:¬ kI d'=some k:=λy=>z (xj (y.symm.trans q))
    rw[if_neg nq,if_neg nq,ih,if_neg z]
  .rw [if_neg q,show ∀ l,zAs k (.tup [d',u']::l)=if kI d'=some k then some u' else zAs k l from λ_=>rfl,ih];by_cases z:k=k'
   .subst z;rw[if_neg q,if_neg q]
   .rw [if_neg z,if_neg z]
theorem zDQ (h:wfD ws)(hd:kI d=some k'):zAs k (zB1 k' d u ws)=if k=k' then some u else zAs k ws:=by
 unfold zB1;cases e:zAs k' ws with
 | none =>
  rw[if_neg (by simp),zGI h];grind
 | some x =>
  rw[if_pos (by simp),zHy h];grind
theorem zHO (h:wfD ws)(hd:kI d=some k'):wfD (zB1 k' d u ws):=by
 unfold zB1;split
 .intro e he;obtain⟨x,hx,rfl⟩:=mem_map.mp he;obtain⟨d',u',ks,rfl,hk⟩:=h x hx;rw[show repW k' u _=if kI d'=some k' then .tup [d',u] else .tup [d',u'] from rfl];split
  .exact ⟨d',u,ks,rfl,hk⟩
  .exact ⟨d',u',ks,rfl,hk⟩
 .intro e he;rcases mem_append.mp he with z | z
  .exact h e z
  .rw [mem_singleton.mp z];exact⟨d,u,k',rfl,hd⟩
theorem zD7 :(zB1 k' d u ws).length<=ws.length+1:=by
 unfold zB1;split
 .simp
 .simp
theorem zEK :∀ {ws:List W},wfD ws->zAs k (zBy k' ws)=if k=k' then none else zAs k ws
 | [],_=>by show (none:Option W)=_;split<;>rfl
 | e::ws,h=>by
  obtain⟨d',u',ks,rfl,hk⟩:=h e q8;have ih:=zEK (k:=k) (k':=k') (ws:=ws) λx hx=>h x (qY _ hx)
  unfold zBy at ih ⊢;rw[filter_cons,show hasK k' (.tup [d',u'])=decide (kI d'=some k') from rfl,show zAs k (.tup [d',u']::ws)=if kI d'=some k then some u' else zAs k ws from rfl];by_cases q:kI d'=some k'
  .rw [decide_eq_true q,if_neg (by decide),ih];by_cases z:k=k'
   .rw [if_pos z,if_pos z]
   .rw [if_neg z,if_neg z,if_neg λy=>z (xj (y.symm.trans q))]
  .rw [decide_eq_false q,if_pos (by decide),show ∀ l,zAs k (.tup [d',u']::l)=if kI d'=some k then some u' else zAs k l from λ_=>rfl,ih];by_cases z:k=k'
   .subst z;rw[if_neg q,if_pos rfl,if_pos rfl]
   .rw [if_neg z,if_neg z]
theorem zIn (h:wfD ws):wfD (zBy k' ws):=λe he=>h e (mem_filter.mp he).1
theorem zHg :(zBy k' ws).length<=ws.length:=length_filter_le _ _
noncomputable def binC (op:Operator)(x y:D):Option R:=match op,x,y with
 | .Mult,.int i,.int j=>if i.natAbs < 18446744073709551616 then some (.int (i*j),.cl) else none
 | .FloorDiv,.int i,.int j=>if j=0 then none else some (.int (i.fdiv j),.cl)
 | .Add,.int i,.int j=>some (.int (i+j),.cl)
 | .Add,.lst xs,.lst ys=>if xs.length+ys.length<=10000 then some (.lst (xs++ys),.fr) else none
 | .Add,.tup (x::xs),.tup (y::ys)=>if (x::xs).length+(y::ys).length<=10000 then some (.tup ((x::xs)++(y::ys)),.cl) else none
 | .Sub,.int i,.int j=>some (.int (i - j),.cl)
 | .Mod,.int i,.int j=>if j=0 then none else some (.int (i.fmod j),.cl)
 | _,_,_=>none
mutual
def cvE (J:Gm):E->Dst->Option R
 | .var i=>varD i
 | .glob n x=>zDl J n x
 | .int i=>λ_=>some (.int i,.cl)
 | .bl b=>λ_=>some (.bl b,.cl)
 | .non=>λ_=>some (.non,.cl)
 | .bin op a b=>two (cvE J a) (cvE J b) (binC op)
 | .neg a=>negD (cvE J a)
 | .not a=>notD (cvE J a)
 | .cmp op a b=>two (cvE J a) (cvE J b) (cmpD op)
 | .andl es=>cvAnd J es
 | .orl es=>cvOr J es
 | .ite c a b=>iteD (cvE J c) (cvE J a) (cvE J b)
 | .tup es=>tupD (cvEs J es)
 | .lst es=>lstD (cvEs J es)
 | .ix a i=>two (cvE J a) (cvE J i) ixD
 | .sl a lo hi=>slD (cvE J a) (cvO J lo) (cvO J hi)
 | .call n f es=>fnD J n f (cvEs J es)
 | .len a=>one (cvE J a) lenD
 | .abs a=>one (cvE J a) absD
 | .list a=>one (cvE J a) zIX
 | .max a b=>two (cvE J a) (cvE J b) maxD
 | .chn op op' a b c=>chD (cmpD op) (cmpD op') (cvE J a) (cvE J b) (cvE J c)
 | .tupl a=>one (cvE J a) zHR
 | .lrev a=>one (cvE J a) revD
 | .comp1 n ms _ src c e=>zHE ms 1 (cvI J src) (tg1 n) (cvC J c) (cvE J e)
 | .lzip a b=>two (cvE J a) (cvE J b) zipD
 | _=>λ_=>none
def cvI (J:Gm):E->Dst->Option (List D)
 | .it e=>zEA (cvE J e)
 | .r1 a=>zGh (cvE J a)
 | .r2 a b=>zFw (cvE J a) (cvE J b)
 | .r3 a b c=>zGg (cvE J a) (cvE J b) (cvE J c)
 | _=>λ_=>none
def cvC (J:Gm):E->Dst->Option Bool
 | .nil=>λ_=>some true
 | .cons c _=>asB (cvE J c)
 | _=>λ_=>none
def cvEs (J:Gm):E->Dst->Option (List D)
 | .nil=>λ_=>some []
 | .cons e es=>zHC (cvE J e) (cvEs J es)
 | _=>λ_=>none
def cvAnd (J:Gm):E->Dst->Option R
 | .cons e es=>(match es with
  | .nil=>cvE J e
  | es=>andD (cvE J e) (cvAnd J es))
 | _=>λ_=>none
def cvOr (J:Gm):E->Dst->Option R
 | .cons e es=>(match es with
  | .nil=>cvE J e
  | es=>orD (cvE J e) (cvOr J es))
 | _=>λ_=>none
def cvO (J:Gm):E->Dst->Option (Option Int)
 | .cons e _=>zGl (cvE J e)
 | _=>λ_=>some none
end
mutual
def cvS (J:Gm):S->Dst->Option Out
 | .set i e=>setD i (cvE J e)
 | .setC i e=>setD i (cvE J e)
 | .app i e=>appD i (cvE J e)
 | .ext i e=>extD i (cvE J e)
 | .aug op i e=>augD op i (cvE J e)
 | .ife c a b=>ifD (asB (cvE J c)) (cvSs J a) (cvSs J b)
 | .whl c b=>zBd (asB (cvE J c)) (cvSs J b) 100
 | .for1 i it b=>λO=>(cvI J it O).bind λxs=>forD (tg1 i) (cvSs J b) xs O
 | .ret e=>retD (cvE J e)
 | .retOwn i=>zFH i
 | _=>λ_=>none
def cvSs (J:Gm):S->Dst->Option Out
 | .nil=>λO=>some (.nx O)
 | .cons a b=>seqD (cvS J a) (cvSs J b)
 | .frz i r=>seqD (frzD i) (cvSs J r)
 | _=>λ_=>none
end
def Le {U Z:Type}(f g:U->Option Z):Prop:=∀ x r,f x=some r->g x=some r
structure GLe (C G:Gm):Prop where
 ln:C.fns.length=G.fns.length
 cs:C.cs=G.cs
 fn:∀ (n:Nat) (x:Str) F,C.fns[n]?=some (x,F)->∃ F',G.fns[n]?=some (x,F')/\Le F F'
theorem zAB {U Z:Type}{g:U->Option Z}:Le (λ_=>none) g:=λ_ _ z=>nomatch z
theorem zAw {U Z:Type}{g:U->Option Z}:Le g g:=λ_ _ z=>z
theorem bnd {Z γ:Type}{p p':Option Z}{k k':Z->Option γ}{r:γ}(h:∀ y,p=some y->p'=some y)(hk:∀ y r,k y=some r->k' y=some r)(e:p.bind k=some r):p'.bind k'=some r:=by
 obtain⟨y,ey,e⟩:=bind_some e;rw[h y ey];exact hk y r e
theorem zMn (h:Le f f')(k:Le g g')(ho:∀ x y r,o x y=some r->o' x y=some r):Le (two f g o) (two f' g' o'):=λx r e=>bnd (h x) (λ_ r e=>bnd (k x) (λ_ r e=>ho _ _ r e) e) e
theorem zQf (h:Le f f'):Le (one f o) (one f' o):=λx r e=>bnd (h x) (λ_ _ e=>e) e
theorem zET (h:Le f f'):Le (asB f) (asB f'):=λx r e=>by
 unfold asB at e ⊢;cases q:f x with
 | none=>rw[q] at e;cases e
 | some y=>rw[q] at e;rw[h x y q];exact e
theorem zOK (h:Le f f'):Le (negD f) (negD f'):=λx r e=>by
 unfold negD at e ⊢;cases q:f x with
 | none=>rw[q] at e;cases e
 | some y=>rw[q] at e;rw[h x y q];exact e
theorem zOH (h:Le f f'):Le (notD f) (notD f'):=λx r e=>bnd (zET h x) (λ_ _ e=>e) e
theorem zIZ {γ:Type}{b:Bool}{p q p' q':Option γ}{r:γ}(h:∀ r,p=some r->p'=some r)(k:∀ r,q=some r->q'=some r)(e:(if b=true then p else q)=some r):(if b=true then p' else q')=some r:=by
 cases b
 .exact k r e
 .exact h r e
theorem zPk (h:Le f f')(k:Le g g'):Le (andD f g) (andD f' g'):=λx r e=>bnd (zET h x) (λ_ _ e=>zIZ (k x) (λ_ z=>z) e) e
theorem zQQ (h:Le f f')(k:Le g g'):Le (orD f g) (orD f' g'):=λx r e=>bnd (zET h x) (λ_ _ e=>zIZ (λ_ z=>z) (k x) e) e
theorem zOT (hc:Le c c')(h:Le f f')(k:Le g g'):Le (iteD c f g) (iteD c' f' g'):=λx r e=>bnd (zET hc x) (λ_ _ e=>zIZ (h x) (k x) e) e
theorem zQ2 (hc:Le c c')(h:Le f f')(k:Le g g'):Le (ifD c f g) (ifD c' f' g'):=λx r e=>bnd (hc x) (λ_ _ e=>zIZ (h x) (k x) e) e
theorem ndt {γ:Type}{k:Kd}{p p':Option γ}{r:γ}(h:∀ r,p=some r->p'=some r)(e:(if k=.dt then none else p)=some r):(if k=.dt then none else p')=some r:=by grind
theorem zMd (h:Le f f')(k:Le g g'):Le (zHC f g) (zHC f' g'):=λx r e=>bnd (h x) (λ_ _ e=>ndt (λ_ e=>bnd (k x) (λ_ _ e=>e) e) e) e
theorem zNf (k:Le g g'):Le (tupD g) (tupD g'):=λx r e=>bnd (k x) (λ_ _ e=>e) e
theorem zON (k:Le g g'):Le (lstD g) (lstD g'):=λx r e=>bnd (k x) (λ_ _ e=>e) e
theorem zP6 (hf:Le f f')(hl:Le l l')(hh:Le h h'):Le (slD f l h) (slD f' l' h'):=λx r e=>bnd (hf x) (λ_ r e=>bnd (hl x) (λ_ r e=>bnd (hh x) (λ_ _ e=>e) e) e) e
theorem zLS (h:Le f f'):Le (zGl f) (zGl f'):=λx r e=>by
 unfold zGl at e ⊢;cases q:f x with
 | none=>rw[q] at e;cases e
 | some y=>rw[q] at e;rw[h x y q];exact e
theorem zJr (h:Le f f'):Le (zEA f) (zEA f'):=λx r e=>by
 unfold zEA at e ⊢;cases q:f x with
 | none=>rw[q] at e;cases e
 | some y=>rw[q] at e;rw[h x y q];exact e
theorem zLF (h:Le f f'):Le (zGh f) (zGh f'):=λx r e=>by
 unfold zGh at e ⊢;cases q:f x with
 | none=>rw[q] at e;cases e
 | some y=>rw[q] at e;rw[h x y q];exact e
theorem zLE (h:Le f f')(k:Le g g'):Le (zFw f g) (zFw f' g'):=λx r e=>by
 unfold zFw at e ⊢;split at e
 .rename_i q p;rw[h x _ q,k x _ p];exact e
 .cases e
theorem zLD (h:Le f f')(k:Le g g')(l:Le u u'):Le (zGg f g u) (zGg f' g' u'):=λx r e=>by
 unfold zGg at e ⊢;split at e
 .rename_i q p o;rw[h x _ q,k x _ p,l x _ o];omega
 .cases e
theorem zRn (hg:GLe C G)(k:Le g g'):Le (fnD C n x g) (fnD G n x g'):=λO r e=>by
 unfold fnD at e ⊢;split at e
 .rename_i y F q;obtain⟨F',e1,e2⟩:=hg.fn n y F q;rw[e1];dsimp only;by_cases z:y=x
  .rw [if_pos z] at e ⊢;exact bnd (k O) (λds _ e=>bnd (e2 ds) (λ_ _ e=>e) e) e
  .simp_all
 .cases e
theorem zL5 (hg:GLe C G):Le (zDl C n x) (zDl G n x):=by
 unfold zDl;rw[hg.cs];exact zAw
theorem zR9 (hf:Le f f')(hg:Le g g')(hh:Le h h'):Le (chD o o' f g h) (chD o o' f' g' h'):=λx r e=>bnd (hf x) (λ_ r e=>bnd (hg x) (λ_ r e=>by
 split at e
 .exact bnd (hh x) (λ_ _ e=>e) e
 .omega
 .cases e) e) e
theorem zH0 (hc:Le c c')(he:Le e e'):∀ xs,Le (zGM t c e xs) (zGM t c' e' xs)
  | []=>λ_ _ z=>z
  | x::xs=>λO r h=>by
    have ih:=zH0 (t:=t) hc he xs;rw[zGM] at h ⊢;exact bnd (λ_ e=>e) (λO7 r h=>bnd (hc O7) (λ_ _ h=>zIZ (λ_ h=>bnd (he O7) (λ_ _ h=>ndt (λ_ h=>bnd (ih O7) (λ_ _ e=>e) h) h) h) (ih O7) h) h) h
theorem zMe (hf:Le f f')(hc:Le c c')(he:Le e e'):Le (zHE ms k f t c e) (zHE ms k f' t c' e'):=λx r e=>bnd (hf x) (λzs r h=>by
 by_cases q:zs.length<=10000
 .rw [if_pos q] at h ⊢;exact bnd (zH0 hc he zs _) (λ_ _ e=>e) h
 .rw [if_neg q] at h;cases h) e
theorem zPe (op:Operator)(x y:D)(r:R)(e:binC op x y=some r):binD op x y=some r:=by
 unfold binC at e;split at e
 .split at e
  .rename_i i j z;exact(if_pos (zDc z)).trans e
  .cases e
 .split at e
  .cases e
  .rename_i z;exact(if_pos z).trans e
 all_goals first | exact e | cases e
theorem zI0 (h:Le f f')(k:Le g g'):Le (seqD f g) (seqD f' g'):=λx r e=>bnd (h x) (λo r e=>by
 cases o with
 | nx O=>exact k O r e
 | _=>exact e) e
theorem zIz (h:Le f f'):Le (setD i f) (setD i f'):=λx r e=>bnd (h x) (λ_ _ e=>e) e
theorem zNn (h:Le f f'):Le (retD f) (retD f'):=λx r e=>bnd (h x) (λ_ _ e=>e) e
theorem zPj (h:Le f f'):Le (appD i f) (appD i f'):=λx r e=>by
 unfold appD at e ⊢;split at e
 .exact bnd (h x) (λ_ _ e=>e) e
 .omega
theorem zO9 (h:Le f f'):Le (extD i f) (extD i f'):=λx r e=>by
 unfold extD at e ⊢;split at e
 .exact bnd (h x) (λ_ _ e=>e) e
 .omega
theorem zPf (h:Le f f'):Le (augD op i f) (augD op i f'):=λx r e=>by
 unfold augD at e ⊢;split at e
 .exact bnd (h x) (λ_ _ e=>e) e
 .omega
theorem zKA (h:Le b b'):∀ xs,Le (forD t b xs) (forD t b' xs)
  | []=>λ_ _ z=>z
  | x::xs=>λO r e=>by
    have ih:=zKA (t:=t) h xs;rw[forD] at e ⊢;obtain⟨O7,e1,e⟩:=bind_some e;obtain⟨o,e2,e⟩:=bind_some e;rw[e1,qx,h O7 o e2];cases o with
    | nx O=>exact ih O r e
    | ct O=>exact ih O r e
    | _=>exact e
theorem zFn (hc:Le c c')(h:Le b b'):∀ n,Le (zBd c b n) (zBd c' b' n)
  | 0=>λ_ _ z=>nomatch z
  | n+1=>λO r e=>by
    have ih:=zFn hc h n;rw[zBd] at e ⊢;obtain⟨k,e1,e⟩:=bind_some e;rw[hc O k e1,qx];refine zIZ (λr e=>?_) (λ_ z=>z) e;obtain⟨o,e2,e⟩:=bind_some e;rw[h O o e2];cases o with
    | nx O=>exact ih O r e
    | ct O=>exact ih O r e
    | _=>exact e
structure LE (C G:Gm)(x:E):Prop where
 e:Le (cvE C x) (evE G x)
 i:Le (cvI C x) (evI G x)
 c:Le (cvC C x) (evC G x)
 s:Le (cvEs C x) (evEs G x)
 a:Le (cvAnd C x) (evAnd G x)
 o:Le (cvOr C x) (evOr G x)
 p:Le (cvO C x) (evO G x)
theorem le_E (hg:GLe C G)(e:E):LE C G e:=by
 induction e with
 | cons e es h k =>
  refine⟨zAB,zAB,zET h.e,zMd h.e k.s,?_,?_,zLS h.e⟩
  .cases es with
   | nil=>exact h.e
   | _=>exact zPk h.e k.a
  .cases es with
   | nil=>exact h.e
   | _=>exact zQQ h.e k.o
 | glob n x=>exact⟨zL5 hg,zAB,zAB,zAB,zAB,zAB,zAw⟩
 | bin op a b h k=>exact⟨zMn h.e k.e (zPe op),zAB,zAB,zAB,zAB,zAB,zAw⟩
 | neg a h=>exact⟨zOK h.e,zAB,zAB,zAB,zAB,zAB,zAw⟩
 | not a h=>exact⟨zOH h.e,zAB,zAB,zAB,zAB,zAB,zAw⟩
 | andl a h=>exact⟨h.a,zAB,zAB,zAB,zAB,zAB,zAw⟩
 | orl a h=>exact⟨h.o,zAB,zAB,zAB,zAB,zAB,zAw⟩
 | tup a h=>exact⟨zNf h.s,zAB,zAB,zAB,zAB,zAB,zAw⟩
 | lst a h=>exact⟨zON h.s,zAB,zAB,zAB,zAB,zAB,zAw⟩
 | ite a b c h k l=>exact⟨zOT h.e k.e l.e,zAB,zAB,zAB,zAB,zAB,zAw⟩
 | sl a b c h k l=>exact⟨zP6 h.e k.p l.p,zAB,zAB,zAB,zAB,zAB,zAw⟩
 | call n f es h=>exact⟨zRn hg h.s,zAB,zAB,zAB,zAB,zAB,zAw⟩
 | chn o o' a b c h k l=>exact⟨zR9 h.e k.e l.e,zAB,zAB,zAB,zAB,zAB,zAw⟩
 | comp1 n ms x a b c h k l=>exact⟨zMe h.i k.c l.e,zAB,zAB,zAB,zAB,zAB,zAw⟩
 | it a h=>exact⟨zAB,zJr h.e,zAB,zAB,zAB,zAB,zAw⟩
 | r1 a h=>exact⟨zAB,zLF h.e,zAB,zAB,zAB,zAB,zAw⟩
 | r2 a b h k=>exact⟨zAB,zLE h.e k.e,zAB,zAB,zAB,zAB,zAw⟩
 | r3 a b c h k l=>exact⟨zAB,zLD h.e k.e l.e,zAB,zAB,zAB,zAB,zAw⟩
 | nil=>exact⟨zAB,zAB,zAw,zAw,zAB,zAB,zAw⟩
 | _=>first
  | exact⟨zAB,zAB,zAB,zAB,zAB,zAB,zAw⟩
  | exact⟨zAw,zAB,zAB,zAB,zAB,zAB,zAw⟩
  | (rename_i h;exact⟨zQf h.e,zAB,zAB,zAB,zAB,zAB,zAw⟩)
  | (rename_i h k;exact⟨zMn h.e k.e λ_ _ _ e=>e,zAB,zAB,zAB,zAB,zAB,zAw⟩)
theorem le_S (hg:GLe C G)(s:S):Le (cvS C s) (evS G s)/\Le (cvSs C s) (evSs G s):=by
 induction s with
 | cons a b h k=>exact⟨zAB,zI0 h.1 k.2⟩
 | frz i r h=>exact⟨zAB,zI0 zAw h.2⟩
 | nil=>exact⟨zAB,zAw⟩
 | set i e=>exact⟨zIz (le_E hg e).e,zAB⟩
 | setC i e=>exact⟨zIz (le_E hg e).e,zAB⟩
 | app i e=>exact⟨zPj (le_E hg e).e,zAB⟩
 | ext i e=>exact⟨zO9 (le_E hg e).e,zAB⟩
 | aug o i e=>exact⟨zPf (le_E hg e).e,zAB⟩
 | ret e=>exact⟨zNn (le_E hg e).e,zAB⟩
 | ife c a b h k=>exact⟨zQ2 (zET (le_E hg c).e) h.2 k.2,zAB⟩
 | whl c b h=>exact⟨λO r e=>zIm (zFn (zET (le_E hg c).e) h.2 100 O r e),zAB⟩
 | for1 i it b h=>exact⟨λO r e=>bnd ((le_E hg it).i O) (λxs r e=>zKA h.2 xs O r e) e,zAB⟩
 | retOwn i=>exact⟨zAw,zAB⟩
 | _=>exact⟨zAB,zAB⟩
theorem zAj (hg:GLe C G)(b:S):Le (dFun np nN (cvSs C b)) (dFun np nN (evSs G b)):=λds r e=>by
 unfold dFun at e ⊢;by_cases q:ds.length=np/\np<=nN
 .rw [if_pos q] at e ⊢;obtain⟨o,e1,e⟩:=bind_some e;rw[(le_S hg b).2 _ _ e1];exact e
 .simp_all
noncomputable def Gm.ad (C:Gm)(x:Str)(F:List D->Option R):Gm:={ C with fns:=C.fns++[(x,F)] }
theorem zAR (h:GLe C G)(hf:Le F F'){a b c d e}:GLe (C.ad x F) ⟨G.fns++[(x,F')],G.cs,a,b,c,d,e⟩:=by
 have hl:=h.ln;refine⟨by show (C.fns++[_]).length=(G.fns++[_]).length;rw[qj,qj,hl];rfl,h.cs,λn y F1 e=>?_⟩;have e:(C.fns++[(x,F)])[n]?=some (y,F1):=e;by_cases q:n < C.fns.length
 .rw [getElem?_append_left q] at e;obtain⟨F2,e1,e2⟩:=h.fn n y F1 e;exact⟨F2,(getElem?_append_left (by omega)).trans e1,e2⟩
 .have:n=C.fns.length:=by have:=(zzg e).1;rw[qj] at this;have:n < C.fns.length+1:=this;omega
  simp_all
end DL
end
section
namespace Q
open PySem L2 DL
noncomputable def top (i:Nat):Stmt:=PySem.Challenge.pw_coverfill_k36_layers_by_number.main.body.getD i (.Pass ⟨0,0,0,0⟩)
noncomputable def bs:List Str:=["abs","len","range","list","tuple","zip","reversed","max","isinstance","bool","int"]
noncomputable def N0:List Str:=["k"]
noncomputable def b0:S:=.cons (.whl (.bl true) (.cons .pass .nil)) .nil
theorem ck0:dB (top 0) 1 N0 bs b0=true:=rfl
noncomputable def N1:List Str:=["one","other","rest"]
noncomputable def b1:S:=.cons (.whl (.cmp .Gt (.var 1) (.int 0)) (.cons (.set 2 (.bin .Mod (.var 0) (.var 1))) (.cons (.set 0 (.var 1)) (.cons (.set 1 (.var 2)) .nil)))) (.cons (.ret (.var 0)) .nil)
theorem ck1:dB (top 10) 2 N1 bs b1=true:=by decide +kernel
noncomputable def N2:List Str:=["top","bottom","measure"]
noncomputable def b2:S:=.cons (.ife (.cmp .Eq (.var 1) (.int 0)) (.cons .never .nil) .nil) (.cons (.set 2 (.call 1 "common_measure" (.cons (.abs (.var 0)) (.cons (.abs (.var 1)) .nil)))) (.cons (.ife (.cmp .Lt (.var 1) (.int 0)) (.cons (.set 2 (.neg (.var 2))) .nil) .nil) (.cons (.ret (.tup (.cons (.bin .FloorDiv (.var 0) (.var 2)) (.cons (.bin .FloorDiv (.var 1) (.var 2)) .nil)))) .nil)))
theorem ck2:dB (top 11) 2 N2 bs b2=true:=rfl
noncomputable def N3:List Str:=["one","other"]
noncomputable def b3:S:=.cons (.ret (.call 2 "ratio" (.cons (.bin .Add (.bin .Mult (.ix (.var 0) (.int 0)) (.ix (.var 1) (.int 1))) (.bin .Mult (.ix (.var 1) (.int 0)) (.ix (.var 0) (.int 1)))) (.cons (.bin .Mult (.ix (.var 0) (.int 1)) (.ix (.var 1) (.int 1))) .nil)))) .nil
theorem ck3:dB (top 12) 2 N3 bs b3=true:=rfl
noncomputable def N4:List Str:=["one","other"]
noncomputable def b4:S:=.cons (.ret (.call 2 "ratio" (.cons (.bin .Sub (.bin .Mult (.ix (.var 0) (.int 0)) (.ix (.var 1) (.int 1))) (.bin .Mult (.ix (.var 1) (.int 0)) (.ix (.var 0) (.int 1)))) (.cons (.bin .Mult (.ix (.var 0) (.int 1)) (.ix (.var 1) (.int 1))) .nil)))) .nil
theorem ck4:dB (top 13) 2 N4 bs b4=true:=rfl
noncomputable def N5:List Str:=["one","other"]
noncomputable def b5:S:=.cons (.ret (.call 2 "ratio" (.cons (.bin .Mult (.ix (.var 0) (.int 0)) (.ix (.var 1) (.int 0))) (.cons (.bin .Mult (.ix (.var 0) (.int 1)) (.ix (.var 1) (.int 1))) .nil)))) .nil
theorem ck5:dB (top 14) 2 N5 bs b5=true:=rfl
noncomputable def N6:List Str:=["one","other"]
noncomputable def b6:S:=.cons (.ret (.call 2 "ratio" (.cons (.bin .Mult (.ix (.var 0) (.int 0)) (.ix (.var 1) (.int 1))) (.cons (.bin .Mult (.ix (.var 0) (.int 1)) (.ix (.var 1) (.int 0))) .nil)))) .nil
theorem ck6:dB (top 15) 2 N6 bs b6=true:=rfl
noncomputable def N7:List Str:=["some","added"]
noncomputable def b7:S:=.cons (.setC 1 (.comp1 2 [] "k" (.r3 (.int 0) (.bin .Sub (.len (.var 0)) (.int 1)) (.int 2)) .nil (.call 3 "plus" (.cons (.ix (.var 0) (.var 2)) (.cons (.ix (.var 0) (.bin .Add (.var 2) (.int 1))) .nil))))) (.cons (.ife (.cmp .Eq (.bin .Mod (.len (.var 0)) (.int 2)) (.int 1)) (.cons (.app 1 (.ix (.var 0) (.neg (.int 1)))) .nil) .nil) (.cons (.retOwn 1) .nil))
theorem ck7:dB (top 16) 1 N7 bs b7=true:=rfl
noncomputable def N8:List Str:=["some","sums"]
noncomputable def b8:S:=.cons (.set 1 (.list (.var 0))) (.cons (.whl (.cmp .Gt (.len (.var 1)) (.int 1)) (.frz 1 (.cons (.set 1 (.call 7 "neighbours_added" (.cons (.var 1) .nil))) .nil))) (.cons (.ret (.ite (.cmp .Eq (.len (.var 1)) (.int 1)) (.ix (.var 1) (.int 0)) (.glob 0 "NOUGHT"))) .nil))
theorem ck8:dB (top 17) 1 N8 bs b8=true:=by decide +kernel
noncomputable def N9:List Str:=["one","other"]
noncomputable def b9:S:=.cons (.ret (.cmp .Lt (.bin .Mult (.ix (.var 0) (.int 0)) (.ix (.var 1) (.int 1))) (.bin .Mult (.ix (.var 1) (.int 0)) (.ix (.var 0) (.int 1))))) .nil
theorem ck9:dB (top 18) 2 N9 bs b9=true:=rfl
noncomputable def N10:List Str:=["one","low","high"]
noncomputable def b10:S:=.cons (.ife (.call 9 "under" (.cons (.var 0) (.cons (.var 1) .nil))) (.cons (.ret (.var 1)) .nil) .nil) (.cons (.ife (.call 9 "under" (.cons (.var 2) (.cons (.var 0) .nil))) (.cons (.ret (.var 2)) .nil) .nil) (.cons (.ret (.var 0)) .nil))
theorem ck10:dB (top 19) 3 N10 bs b10=true:=rfl
noncomputable def N11:List Str:=["one"]
noncomputable def b11:S:=.cons (.ret (.bin .FloorDiv (.ix (.var 0) (.int 0)) (.ix (.var 0) (.int 1)))) .nil
theorem ck11:dB (top 20) 1 N11 bs b11=true:=rfl
noncomputable def N12:List Str:=["share"]
noncomputable def b12:S:=.cons (.ret (.call 10 "between" (.cons (.var 0) (.cons (.glob 0 "NOUGHT") (.cons (.glob 2 "ONE") .nil))))) .nil
theorem ck12:dB (top 22) 1 N12 bs b12=true:=rfl
noncomputable def N13:List Str:=[]
noncomputable def b13:S:=.cons (.ret (.tup (.cons (.glob 2 "ONE") (.cons (.glob 0 "NOUGHT") (.cons (.glob 0 "NOUGHT") (.cons (.glob 0 "NOUGHT") (.cons (.glob 0 "NOUGHT") .nil))))))) .nil
theorem ck13:dB (top 23) 0 N13 bs b13=true:=rfl
noncomputable def N14:List Str:=[]
noncomputable def b14:S:=.cons (.ret (.tup (.cons (.glob 0 "NOUGHT") (.cons (.glob 0 "NOUGHT") (.cons (.glob 0 "NOUGHT") (.cons (.glob 0 "NOUGHT") .nil)))))) .nil
theorem ck14:dB (top 24) 0 N14 bs b14=true:=rfl
noncomputable def N15:List Str:=["part"]
noncomputable def b15:S:=.cons (.ret (.call 4 "minus" (.cons (.glob 2 "ONE") (.cons (.var 0) .nil)))) .nil
theorem ck15:dB (top 25) 1 N15 bs b15=true:=by decide +kernel
noncomputable def N16:List Str:=["parts","by"]
noncomputable def b16:S:=.cons (.ret (.tupl (.comp1 2 [] "part" (.it (.var 0)) .nil (.call 5 "times" (.cons (.var 2) (.cons (.var 1) .nil)))))) .nil
theorem ck16:dB (top 26) 2 N16 bs b16=true:=rfl
noncomputable def N17:List Str:=["s","ink"]
noncomputable def b17:S:=.cons (.ret (.bin .Add (.tup (.cons (.call 15 "rest_of" (.cons (.var 0) .nil)) (.cons (.var 0) .nil))) (.call 16 "multiplied" (.cons (.comp1 2 [] "part" (.it (.var 1)) .nil (.tup (.cons (.var 2) (.cons (.int 1) .nil)))) (.cons (.var 0) .nil))))) .nil
theorem ck17:dB (top 27) 2 N17 bs b17=true:=rfl
noncomputable def N18:List Str:=["s"]
noncomputable def b18:S:=.cons (.ret (.tup (.cons (.call 15 "rest_of" (.cons (.var 0) .nil)) (.cons (.glob 0 "NOUGHT") (.cons (.glob 0 "NOUGHT") (.cons (.glob 0 "NOUGHT") (.cons (.glob 0 "NOUGHT") .nil))))))) .nil
theorem ck18:dB (top 28) 1 N18 bs b18=true:=rfl
noncomputable def N19:List Str:=["ring"]
noncomputable def b19:S:=.cons (.ret (.lzip (.var 0) (.bin .Add (.sl (.var 0) (.cons (.int 1) .nil) .nil) (.sl (.var 0) .nil (.cons (.int 1) .nil))))) .nil
theorem ck19:dB (top 30) 1 N19 bs b19=true:=rfl
noncomputable def N20:List Str:=["start","end","last"]
noncomputable def P20:List Str:=["start","end","last"]
noncomputable def b20:S:=.cons (.ife (.call 9 "under" (.cons (.var 1) (.cons (.var 0) .nil))) (.cons (.ret (.lrev (.call 20 "numbers_between" (.cons (.var 1) (.cons (.var 0) (.cons (.var 2) .nil)))))) .nil) .nil) (.cons (.ret (.comp1 3 [] "number" (.r1 (.bin .Add (.var 2) (.int 1))) (.cons (.andl (.cons (.call 9 "under" (.cons (.var 0) (.cons (.tup (.cons (.var 3) (.cons (.int 1) .nil))) .nil))) (.cons (.call 9 "under" (.cons (.tup (.cons (.var 3) (.cons (.int 1) .nil))) (.cons (.var 1) .nil))) .nil))) .nil) (.var 3))) .nil)
theorem sc20:zAq N20 P20 (zAA (top 32)):=⟨rfl,rfl,rfl,by decide +kernel,rfl,by decide +kernel,by decide +kernel⟩
theorem ck20:cSs (zAA (top 32)) N20 bs b20 (zAK (top 32))=true:=rfl
noncomputable def N21:List Str:=["numbers","start","end","rest","rest_end","slope"]
noncomputable def b21:S:=.cons (.ife (.cmp .Eq (.len (.var 0)) (.int 0)) (.cons (.ret (.lst .nil)) .nil) .nil) (.cons (.set 5 (.call 6 "parted" (.cons (.call 4 "minus" (.cons (.var 4) (.cons (.var 3) .nil))) (.cons (.call 4 "minus" (.cons (.var 2) (.cons (.var 1) .nil))) .nil)))) (.cons (.ret (.comp1 6 [] "number" (.it (.var 0)) .nil (.call 3 "plus" (.cons (.var 3) (.cons (.call 5 "times" (.cons (.var 5) (.cons (.call 4 "minus" (.cons (.tup (.cons (.var 6) (.cons (.int 1) .nil))) (.cons (.var 1) .nil))) .nil))) .nil))))) .nil))
theorem ck21:dB (top 33) 5 N21 bs b21=true:=by decide +kernel
noncomputable def N22:List Str:=["side","width","start","end","numbers","heights"]
noncomputable def b22:S:=.cons (.set 2 (.ix (.var 0) (.int 0))) (.cons (.set 3 (.ix (.var 0) (.int 1))) (.cons (.set 4 (.call 20 "numbers_between" (.cons (.ix (.var 2) (.int 0)) (.cons (.ix (.var 3) (.int 0)) (.cons (.var 1) .nil))))) (.frz 4 (.cons (.set 5 (.call 21 "rests_at" (.cons (.var 4) (.cons (.ix (.var 2) (.int 0)) (.cons (.ix (.var 3) (.int 0)) (.cons (.ix (.var 2) (.int 1)) (.cons (.ix (.var 3) (.int 1)) .nil))))))) (.frz 4 (.frz 5 (.cons (.ret (.comp1 6 [] "k" (.r1 (.len (.var 4))) .nil (.tup (.cons (.tup (.cons (.ix (.var 4) (.var 6)) (.cons (.int 1) .nil))) (.cons (.ix (.var 5) (.var 6)) .nil))))) .nil)))))))
theorem ck22:dB (top 34) 2 N22 bs b22=true:=rfl
noncomputable def N23:List Str:=["side","height","start","end","numbers","widths"]
noncomputable def b23:S:=.cons (.set 2 (.ix (.var 0) (.int 0))) (.cons (.set 3 (.ix (.var 0) (.int 1))) (.cons (.set 4 (.call 20 "numbers_between" (.cons (.ix (.var 2) (.int 1)) (.cons (.ix (.var 3) (.int 1)) (.cons (.var 1) .nil))))) (.frz 4 (.cons (.set 5 (.call 21 "rests_at" (.cons (.var 4) (.cons (.ix (.var 2) (.int 1)) (.cons (.ix (.var 3) (.int 1)) (.cons (.ix (.var 2) (.int 0)) (.cons (.ix (.var 3) (.int 0)) .nil))))))) (.frz 4 (.frz 5 (.cons (.ret (.comp1 6 [] "k" (.r1 (.len (.var 4))) .nil (.tup (.cons (.ix (.var 5) (.var 6)) (.cons (.tup (.cons (.ix (.var 4) (.var 6)) (.cons (.int 1) .nil))) .nil))))) .nil)))))))
theorem ck23:dB (top 35) 2 N23 bs b23=true:=rfl
noncomputable def N24:List Str:=["one","other","to_the_right"]
noncomputable def b24:S:=.cons (.ife (.var 2) (.cons (.ret (.call 9 "under" (.cons (.ix (.var 0) (.int 0)) (.cons (.ix (.var 1) (.int 0)) .nil)))) .nil) .nil) (.cons (.ret (.call 9 "under" (.cons (.ix (.var 1) (.int 0)) (.cons (.ix (.var 0) (.int 0)) .nil)))) .nil)
theorem ck24:dB (top 36) 3 N24 bs b24=true:=rfl
noncomputable def N25:List Str:=["some","others","to_the_right","points","k","point"]
noncomputable def b25:S:=.cons (.set 3 (.lst .nil)) (.cons (.set 4 (.int 0)) (.cons (.for1 5 (.it (.var 0)) (.cons (.whl (.andl (.cons (.cmp .Lt (.var 4) (.len (.var 1))) (.cons (.call 24 "comes_ahead" (.cons (.ix (.var 1) (.var 4)) (.cons (.var 5) (.cons (.var 2) .nil)))) .nil))) (.cons (.app 3 (.ix (.var 1) (.var 4))) (.cons (.aug .Add 4 (.int 1)) .nil))) (.cons (.ife (.andl (.cons (.cmp .Lt (.var 4) (.len (.var 1))) (.cons (.cmp .Eq (.ix (.var 1) (.var 4)) (.var 5)) .nil))) (.cons (.aug .Add 4 (.int 1)) .nil) .nil) (.cons (.app 3 (.var 5)) .nil)))) (.cons (.ret (.bin .Add (.var 3) (.sl (.var 1) (.cons (.var 4) .nil) .nil))) .nil)))
theorem ck25:dB (top 37) 3 N25 bs b25=true:=rfl
noncomputable def N26:List Str:=["width","height","side","start","end","crossed"]
noncomputable def b26:S:=.cons (.set 3 (.ix (.var 2) (.int 0))) (.cons (.set 4 (.ix (.var 2) (.int 1))) (.cons (.set 5 (.call 25 "made_one" (.cons (.call 22 "upright_crossings" (.cons (.var 2) (.cons (.var 0) .nil))) (.cons (.call 23 "level_crossings" (.cons (.var 2) (.cons (.var 1) .nil))) (.cons (.call 9 "under" (.cons (.ix (.var 3) (.int 0)) (.cons (.ix (.var 4) (.int 0)) .nil))) .nil))))) (.frz 4 (.frz 3 (.cons (.ret (.bin .Add (.bin .Add (.lst (.cons (.var 3) .nil)) (.var 5)) (.lst (.cons (.var 4) .nil)))) .nil)))))
theorem ck26:dB (top 38) 3 N26 bs b26=true:=rfl
noncomputable def N27:List Str:=["one","other"]
noncomputable def b27:S:=.cons (.ret (.call 5 "times" (.cons (.glob 1 "HALF") (.cons (.call 3 "plus" (.cons (.var 0) (.cons (.var 1) .nil))) .nil)))) .nil
theorem ck27:dB (top 39) 2 N27 bs b27=true:=rfl
noncomputable def N28:List Str:=["start","end","column","row"]
noncomputable def b28:S:=.cons (.set 2 (.call 11 "whole_part" (.cons (.call 27 "middle" (.cons (.ix (.var 0) (.int 0)) (.cons (.ix (.var 1) (.int 0)) .nil))) .nil))) (.cons (.set 3 (.call 11 "whole_part" (.cons (.call 27 "middle" (.cons (.ix (.var 0) (.int 1)) (.cons (.ix (.var 1) (.int 1)) .nil))) .nil))) (.cons (.ret (.tup (.cons (.max (.var 2) (.neg (.int 1))) (.cons (.var 3) (.cons (.var 0) (.cons (.var 1) .nil)))))) .nil))
theorem ck28:dB (top 40) 2 N28 bs b28=true:=by decide +kernel
noncomputable def N29:List Str:=["width","height","piece"]
noncomputable def b29:S:=.cons (.ret (.andl (.cons (.cmp .Lt (.ix (.var 2) (.int 0)) (.var 0)) (.cons (.chn .LtE .Lt (.int 0) (.ix (.var 2) (.int 1)) (.var 1)) .nil)))) .nil
theorem ck29:dB (top 41) 3 N29 bs b29=true:=rfl
noncomputable def N30:List Str:=["width","height","side","points","parts"]
noncomputable def b30:S:=.cons (.ife (.cmp .Eq (.ix (.var 2) (.int 0)) (.ix (.var 2) (.int 1))) (.cons (.ret (.lst .nil)) .nil) .nil) (.cons (.set 3 (.call 26 "stops" (.cons (.var 0) (.cons (.var 1) (.cons (.var 2) .nil))))) (.frz 3 (.cons (.setC 4 (.comp1 5 [] "k" (.r1 (.bin .Sub (.len (.var 3)) (.int 1))) .nil (.call 28 "piece_between" (.cons (.ix (.var 3) (.var 5)) (.cons (.ix (.var 3) (.bin .Add (.var 5) (.int 1))) .nil))))) (.frz 4 (.cons (.ret (.comp1 5 [] "part" (.it (.var 4)) (.cons (.call 29 "counts_on" (.cons (.var 0) (.cons (.var 1) (.cons (.var 5) .nil)))) .nil) (.var 5))) .nil)))))
theorem ck30:dB (top 42) 3 N30 bs b30=true:=rfl
noncomputable def N31:List Str:=["piece"]
noncomputable def b31:S:=.cons (.ret (.call 4 "minus" (.cons (.ix (.ix (.var 0) (.int 2)) (.int 1)) (.cons (.ix (.ix (.var 0) (.int 3)) (.int 1)) .nil)))) .nil
theorem ck31:dB (top 43) 1 N31 bs b31=true:=rfl
noncomputable def N32:List Str:=["piece","column"]
noncomputable def b32:S:=.cons (.set 1 (.ix (.var 0) (.int 0))) (.cons (.ife (.cmp .Eq (.var 1) (.neg (.int 1))) (.cons (.ret (.glob 0 "NOUGHT")) .nil) .nil) (.cons (.ret (.call 5 "times" (.cons (.call 31 "fall" (.cons (.var 0) .nil)) (.cons (.call 4 "minus" (.cons (.tup (.cons (.bin .Add (.var 1) (.int 1)) (.cons (.int 1) .nil))) (.cons (.call 27 "middle" (.cons (.ix (.ix (.var 0) (.int 2)) (.int 0)) (.cons (.ix (.ix (.var 0) (.int 3)) (.int 0)) .nil))) .nil))) .nil)))) .nil))
theorem ck32:dB (top 44) 1 N32 bs b32=true:=rfl
noncomputable def N33:List Str:=["count"]
noncomputable def mb33:MT:=zKb
theorem zSc:dM (top 46) 1 N33 bs mb33=true:=rfl
noncomputable def b33:S:=.cons (.ret (.comp1 1 [] "k" (.r1 (.var 0)) .nil (.lst .nil))) .nil
theorem ck33:dB (top 46) 1 N33 bs b33=true:=rfl
noncomputable def N34:List Str:=["width","height","shape","found","ring","side"]
noncomputable def b34:S:=.cons (.set 3 (.lst .nil)) (.cons (.for1 4 (.it (.var 2)) (.cons (.for1 5 (.it (.call 19 "sides" (.cons (.var 4) .nil))) (.cons (.ext 3 (.call 30 "pieces" (.cons (.var 0) (.cons (.var 1) (.cons (.var 5) .nil))))) .nil)) .nil)) (.cons (.retOwn 3) .nil))
theorem ck34:dB (top 47) 3 N34 bs b34=true:=by decide +kernel
noncomputable def N35:List Str:=["falls","rights","told","fallen","column"]
noncomputable def b35:S:=rowB 3 8 0
theorem ck35:dB (top 48) 2 N35 bs b35=true:=rfl
noncomputable def N36:List Str:=["width","height","shape","falls","rights","piece","place"]
noncomputable def mb36:MT:=zGe 34 31 32 35 0
theorem zQp:dM (top 49) 3 N36 bs mb36=true:=by decide
noncomputable def N37:List Str:=["shape"]
noncomputable def mb37:MT:=.cons (.ret (.comp 1 [] "ring" (.it (.var 0)) (.pur (.list (.var 1))))) .nil
theorem zQo:dM (top 51) 1 N37 bs mb37=true:=rfl
noncomputable def N38:List Str:=["strength"]
noncomputable def b38:S:=.cons (.ret (.ite (.cmp .Is (.var 0) .non) (.glob 2 "ONE") (.var 0))) .nil
theorem ck38:dB (top 52) 1 N38 bs b38=true:=rfl
noncomputable def N39:List Str:=["rows","change"]
noncomputable def mb39:MT:=.cons (.ret (.comp 2 [] "row" (.it (.var 0)) (.comp 3 [] "one" (.it (.var 2)) (.pur (.callv 1 (.var 3)))))) .nil
theorem zQn:dM (top 53) 2 N39 bs mb39=true:=rfl
noncomputable def N40:List Str:=["width","height","shape"]
noncomputable def mb40:MT:=.cons (.ret (.call 3 "each_changed" (.cons (.call 1 "shares" (.cons (.var 0) (.cons (.var 1) (.cons (.var 2) .nil)))) (.cons (.pur (.glob 3 "cover")) .nil)))) .nil
theorem zQm:dM (top 54) 3 N40 bs mb40=true:=rfl
noncomputable def N41:List Str:=["width","height","shape","strength"]
noncomputable def P41:List Str:=["width","height","shape","strength"]
theorem sc41:zAq N41 P41 (zAA (top 55)):=by exact⟨rfl,rfl,rfl,by decide +kernel,rfl,by decide +kernel,by decide +kernel⟩
noncomputable def N42:List Str:=["rows","touched","row","column"]
noncomputable def mb42:MT:=.cons (.set 1 (.lst .nil)) (.cons (.for1 2 (.rng (.pur (.len (.var 0)))) (.cons (.for1 3 (.rng (.pur (.len (.ix (.var 0) (.var 2))))) (.cons (.ife (.pur (.cmp .NotEq (.ix (.ix (.var 0) (.var 2)) (.var 3)) (.call 13 "clear_film" .nil))) (.cons (.app (.var 1) (.tup (.cons (.var 3) (.cons (.var 2) .nil)))) .nil) .nil) .nil)) .nil)) (.cons (.ret (.var 1)) .nil))
theorem zQl:dM (top 57) 1 N42 bs mb42=true:=rfl
noncomputable def N43:List Str:=["_law_script","_law_k","_law_seed","_law_some"]
noncomputable def b43:S:=zPa
theorem ck43:dB (top 64) 2 N43 bs b43=true:=rfl
noncomputable def N44:List Str:=["_law_found"]
noncomputable def b44:S:=zIl
theorem ck44:dB (top 65) 1 N44 bs b44=true:=rfl
noncomputable def N45:List Str:=["_law_cell_here","_law_k"]
noncomputable def b45:S:=zGa
theorem ck45:dB (top 66) 2 N45 bs b45=true:=rfl
noncomputable def N46:List Str:=["_law_picture","_law_due","_law_found","_law_number"]
noncomputable def mb46:MT:=.cons (.set 2 (.mth [("Picture",19)] "numbers" (.var 0) .nil)) (.cons (.ife (.pur (.orl (.cons (.not (.isi .list (.var 2))) (.cons (.cmp .NotEq (.var 2) (.var 1)) .nil)))) (.cons (.ret (.pur (.bl false))) .nil) .nil) (.cons (.for1 3 (.it (.var 2)) (.cons (.ife (.pur (.not (.call 44 "_law_whole" (.cons (.var 3) .nil)))) (.cons (.ret (.pur (.bl false))) .nil) .nil) .nil)) (.cons (.app (.var 2) (.pur (.int 0))) (.cons (.rev (.var 2)) (.cons (.ret (.cmp .Eq (.mth [("Picture",19)] "numbers" (.var 0) .nil) (.var 1))) .nil)))))
theorem zQk:dM (top 67) 2 N46 bs mb46=true:=rfl
noncomputable def N47:List Str:=["_law_picture","_law_due","_law_given","_law_cell_here","_law_layers","_law_kind","_law_number","_law_place"]
noncomputable def mb47:MT:=.cons (.set 5 (.pur (.bin .Mod (.var 3) (.int 7)))) (.cons (.ife (.pur (.orl (.cons (.cmp .Lt (.var 5) (.int 3)) (.cons (.cmp .Eq (.len (.var 1)) (.int 0)) .nil)))) (.cons (.set 6 (.mth [("Picture",15)] "add" (.var 0) (.cons (.ix (.var 4) (.pur (.bin .Mod (.bin .FloorDiv (.var 3) (.int 7)) (.int 2)))) .nil))) (.cons (.app (.var 1) (.var 2)) (.cons (.ret (.pur (.andl (.cons (.call 44 "_law_whole" (.cons (.var 6) .nil)) (.cons (.cmp .Eq (.var 6) (.var 2)) .nil))))) .nil))) .nil) (.cons (.set 6 (.ix (.var 1) (.pur (.bin .Mod (.bin .FloorDiv (.var 3) (.int 7)) (.len (.var 1)))))) (.cons (.ife (.pur (.cmp .Eq (.var 5) (.int 3))) (.cons (.rem (.var 1) (.var 6)) (.cons (.ret (.cmp .Is (.mth [("Picture",16)] "drop" (.var 0) (.cons (.var 6) .nil)) (.pur .non))) .nil)) .nil) (.cons (.ife (.pur (.cmp .Eq (.var 5) (.int 4))) (.cons (.ret (.cmp .Is (.mth [("Picture",17)] "change" (.var 0) (.cons (.var 6) (.cons (.ix (.var 4) (.pur (.bin .Mod (.bin .FloorDiv (.var 3) (.int 63)) (.int 2)))) .nil))) (.pur .non))) .nil) .nil) (.cons (.set 7 (.pur (.bin .Mod (.bin .FloorDiv (.var 3) (.int 63)) (.len (.var 1))))) (.cons (.rem (.var 1) (.var 6)) (.cons (.ins (.var 1) (.var 7) (.var 6)) (.cons (.ret (.cmp .Is (.mth [("Picture",18)] "lift" (.var 0) (.cons (.var 6) (.cons (.var 7) .nil))) (.pur .non))) .nil))))))))
theorem zQj:dM (top 68) 5 N47 bs mb47=true:=by decide
noncomputable def N48:List Str:=["_law_script","_law_width","_law_height","_law_box","_law_layers","_law_pictures","_law_dues","_law_given","_law_cells","_law_k","_law_cell_here","_law_at","_law_many"]
noncomputable def P48:List Str:=["_law_script"]
noncomputable def mb48:MT:=.cons (.set 1 (.pur (.bin .Add (.int 1) (.bin .Mod (.call 43 "_law_cell" (.cons (.var 0) (.cons (.int 0) .nil))) (.int 3))))) (.cons (.set 2 (.pur (.bin .Add (.int 1) (.bin .Mod (.call 43 "_law_cell" (.cons (.var 0) (.cons (.int 1) .nil))) (.int 2))))) (.cons (.set 3 (.lst (.cons (.lst (.cons (.pur (.tup (.cons (.tup (.cons (.int 0) (.cons (.int 1) .nil))) (.cons (.tup (.cons (.int 0) (.cons (.int 1) .nil))) .nil)))) (.cons (.pur (.tup (.cons (.tup (.cons (.int 1) (.cons (.int 1) .nil))) (.cons (.tup (.cons (.int 0) (.cons (.int 1) .nil))) .nil)))) (.cons (.pur (.tup (.cons (.tup (.cons (.int 1) (.cons (.int 1) .nil))) (.cons (.tup (.cons (.int 1) (.cons (.int 1) .nil))) .nil)))) (.cons (.pur (.tup (.cons (.tup (.cons (.int 0) (.cons (.int 1) .nil))) (.cons (.tup (.cons (.int 1) (.cons (.int 1) .nil))) .nil)))) .nil))))) .nil))) (.cons (.set 4 (.lst (.cons (.mk 7 "Fill" "strength" true (.cons (.var 3) (.cons (.pur (.tup (.cons (.int 1) (.cons (.int 2) (.cons (.int 3) .nil))))) .nil))) (.cons (.mk 8 "Rub" "strength" true (.cons (.lst .nil) .nil)) .nil)))) (.cons (.set 5 (.lst (.cons (.mk 11 "Picture" "watcher" true (.cons (.var 1) (.cons (.var 2) .nil))) (.cons (.mk 11 "Picture" "watcher" true (.cons (.var 1) (.cons (.var 2) .nil))) .nil)))) (.cons (.set 6 (.lst (.cons (.lst .nil) (.cons (.lst .nil) .nil)))) (.cons (.set 7 (.pur (.lst (.cons (.int 0) (.cons (.int 0) .nil))))) (.cons (.set 8 (.pur (.sl (.var 0) (.cons (.int 3) .nil) (.cons (.int 33) .nil)))) (.cons (.ife (.pur (.cmp .Eq (.len (.var 8)) (.int 0))) (.cons (.setC 8 (.comp 13 [9] "_law_k" (.rng (.pur (.bin .Add (.int 3) (.bin .Mod (.call 43 "_law_cell" (.cons (.var 0) (.cons (.int 2) .nil))) (.int 9))))) (.pur (.call 43 "_law_cell" (.cons (.var 0) (.cons (.bin .Add (.int 3) (.var 13)) .nil)))))) .nil) .nil) (.cons (.for1 9 (.rng (.pur (.len (.var 8)))) (.cons (.set 10 (.pur (.call 45 "_law_spread" (.cons (.ix (.var 8) (.var 9)) (.cons (.var 9) .nil))))) (.cons (.set 11 (.pur (.bin .Mod (.var 10) (.int 2)))) (.cons (.set 12 (.pur (.len (.ix (.var 6) (.var 11))))) (.cons (.ife (.not (.call 21 "_law_deed" (.cons (.ix (.var 5) (.var 11)) (.cons (.ix (.var 6) (.var 11)) (.cons (.ix (.var 7) (.var 11)) (.cons (.pur (.bin .FloorDiv (.var 10) (.int 2))) (.cons (.var 4) .nil))))))) (.cons (.ret (.pur (.bl false))) .nil) .nil) (.cons (.ife (.pur (.cmp .Gt (.len (.ix (.var 6) (.var 11))) (.var 12))) (.cons (.iaug (.var 7) (.var 11) (.pur (.int 1))) .nil) .nil) (.cons (.ife (.orl (.cons (.not (.call 20 "_law_stands" (.cons (.ix (.var 5) (.pur (.int 0))) (.cons (.ix (.var 6) (.pur (.int 0))) .nil)))) (.cons (.not (.call 20 "_law_stands" (.cons (.ix (.var 5) (.pur (.int 1))) (.cons (.ix (.var 6) (.pur (.int 1))) .nil)))) .nil))) (.cons (.ret (.pur (.bl false))) .nil) .nil) .nil))))))) (.cons (.ret (.pur (.bl true))) .nil))))))))))
theorem zSb:cSs' (zAA (top 69)) N48 bs mb48 (zAK (top 69))=true:=by decide +kernel
theorem sc48:zAq N48 P48 (zAA (top 69)):=⟨rfl,rfl,rfl,by decide +kernel,rfl,by decide +kernel,by decide +kernel⟩
noncomputable def zGW:List Str:=["self","shape","ink","strength"]
noncomputable def zCr:List Str:=["self","shape","ink","strength"]
theorem zIG:zAq zGW zCr (zAA (zAI (top 59) 0)):=⟨rfl,rfl,rfl,by decide +kernel,rfl,by decide +kernel,by decide +kernel⟩
noncomputable def zDX:List (Str×ME):=[("shape",(.call 2 "own_shape" (.cons (.var 1) .nil))),("ink",(.var 2)),("strength",(.pur (.call 38 "strength_or_one" (.cons (.var 3) .nil))))]
theorem zGx:zHH (zAA (zAI (top 59) 0)) zGW bs "self" zDX (zAK (zAI (top 59) 0))=true:=rfl
noncomputable def zH9:List Str:=["self","shape","strength"]
noncomputable def zDR:List Str:=["self","shape","strength"]
theorem zI2:zAq zH9 zDR (zAA (zAI (top 60) 0)):=⟨rfl,rfl,rfl,by decide +kernel,rfl,by decide +kernel,by decide +kernel⟩
noncomputable def zED:List (Str×ME):=[("shape",(.call 2 "own_shape" (.cons (.var 1) .nil))),("strength",(.pur (.call 38 "strength_or_one" (.cons (.var 2) .nil))))]
theorem zIa:zHH (zAA (zAI (top 60) 0)) zH9 bs "self" zED (zAK (zAI (top 60) 0))=true:=rfl
noncomputable def zBN:List Str:=["self","width","height","thinned"]
noncomputable def zCs:List Str:=["self","width","height"]
theorem zFF:zAq zBN zCs (zAA (zAI (top 59) 1)):=⟨rfl,rfl,rfl,by decide +kernel,rfl,by decide +kernel,by decide +kernel⟩
noncomputable def zHM:List Str:=["self","width","height"]
noncomputable def zCk:MT:=.cons (.ret (.call 3 "each_changed" (.cons (.call 5 "thinned_covers" (.cons (.var 1) (.cons (.var 2) (.cons (.fld (.var 0) "shape") (.cons (.fld (.var 0) "strength") .nil))))) (.cons (.pur (.glob 4 "rub_film")) .nil)))) .nil
theorem zFS:dM (zAI (top 60) 1) 3 zHM bs zCk=true:=by decide +kernel
noncomputable def zDg:List Str:=["self","width","height","watcher"]
noncomputable def zBi:List Str:=["self","width","height","watcher"]
theorem zFE:zAq zDg zBi (zAA (zAI (top 62) 0)):=⟨rfl,rfl,rfl,by decide +kernel,rfl,by decide +kernel,by decide +kernel⟩
noncomputable def zCS:List (Str×ME):=[("width",(.var 1)),("height",(.var 2)),("watcher",(.var 3)),("order",(.lst .nil)),("layers",(.dnew false)),("laid",(.dnew false)),("count",(.pur (.int 0))),("marks",(.dnew true)),("grounds",(.comp 4 [] "row" (.rng (.var 2)) (.comp 5 [] "column" (.rng (.var 1)) (.pur (.call 14 "clear_ground" .nil)))))]
theorem zEa:zHH (zAA (zAI (top 62) 0)) zDg bs "self" zCS (zAK (zAI (top 62) 0))=true:=rfl
noncomputable def zC6:List Str:=["self","number"]
noncomputable def zA8:MT:=.cons (.ife (.nid (.var 1) (.fld (.var 0) "layers")) (.cons .never .nil) .nil) .nil
theorem zCd:dM (zAI (top 62) 9) 2 zC6 bs zA8=true:=rfl
noncomputable def zEb:List Str:=["self","number","cell"]
noncomputable def zBv:MT:=.cons (.for1 2 (.it (.call 6 "touched_cells" (.cons (.dix (.fld (.var 0) "laid") (.var 1)) .nil))) (.cons (.dput (.fld (.var 0) "marks") (.var 2) (.pur (.bl true))) .nil)) .nil
theorem zDi:dM (zAI (top 62) 11) 2 zEb bs zBv=true:=rfl
noncomputable def zFk:List Str:=["self","number","layer","films"]
noncomputable def zB9:MT:=.cons (.dput (.fld (.var 0) "layers") (.var 1) (.var 2)) (.cons (.dput (.fld (.var 0) "laid") (.var 1) (.var 3)) (.cons (.drop (.mth [("Picture",13)] "mark" (.var 0) (.cons (.var 1) .nil))) .nil))
theorem zD2:dM (zAI (top 62) 10) 4 zFk bs zB9=true:=rfl
noncomputable def zFl:List Str:=["self","layer","number"]
noncomputable def zCA:MT:=.cons (.set 2 (.fld (.var 0) "count")) (.cons (.drop (.mth [("Picture",14)] "lay" (.var 0) (.cons (.var 2) (.cons (.var 1) (.cons (.mth [("Fill",9),("Rub",10)] "films" (.var 1) (.cons (.fld (.var 0) "width") (.cons (.fld (.var 0) "height") .nil))) .nil))))) (.cons (.app (.fld (.var 0) "order") (.var 2)) (.cons (.faug (.var 0) "count" (.pur (.int 1))) (.cons (.ret (.var 2)) .nil))))
theorem zD3:dM (zAI (top 62) 1) 2 zFl bs zCA=true:=rfl
noncomputable def zEd:List Str:=["self","number"]
noncomputable def zBx:MT:=.cons (.drop (.mth [("Picture",12)] "check_lies" (.var 0) (.cons (.var 1) .nil))) (.cons (.drop (.mth [("Picture",13)] "mark" (.var 0) (.cons (.var 1) .nil))) (.cons (.rem (.fld (.var 0) "order") (.var 1)) (.cons (.drop (.dpop (.fld (.var 0) "layers") (.var 1))) (.cons (.drop (.dpop (.fld (.var 0) "laid") (.var 1))) .nil))))
theorem zDk:dM (zAI (top 62) 2) 2 zEd bs zBx=true:=by decide +kernel
noncomputable def zDm:List Str:=["self","number","layer","films"]
noncomputable def zBa:MT:=.cons (.drop (.mth [("Picture",12)] "check_lies" (.var 0) (.cons (.var 1) .nil))) (.cons (.set 3 (.mth [("Fill",9),("Rub",10)] "films" (.var 2) (.cons (.fld (.var 0) "width") (.cons (.fld (.var 0) "height") .nil)))) (.cons (.drop (.mth [("Picture",13)] "mark" (.var 0) (.cons (.var 1) .nil))) (.cons (.drop (.mth [("Picture",14)] "lay" (.var 0) (.cons (.var 1) (.cons (.var 2) (.cons (.var 3) .nil))))) .nil)))
theorem zDO:dM (zAI (top 62) 3) 3 zDm bs zBa=true:=rfl
noncomputable def zEc:List Str:=["self","number","place"]
noncomputable def zBw:MT:=.cons (.drop (.mth [("Picture",12)] "check_lies" (.var 0) (.cons (.var 1) .nil))) (.cons (.ife (.orl (.cons (.pur (.cmp .Lt (.var 2) (.int 0))) (.cons (.cmp .GtE (.var 2) (.len (.fld (.var 0) "order"))) .nil))) (.cons .never .nil) .nil) (.cons (.ife (.cmp .Eq (.var 2) (.idx (.fld (.var 0) "order") (.var 1))) (.cons .retN .nil) .nil) (.cons (.rem (.fld (.var 0) "order") (.var 1)) (.cons (.ins (.fld (.var 0) "order") (.var 2) (.var 1)) (.cons (.drop (.mth [("Picture",13)] "mark" (.var 0) (.cons (.var 1) .nil))) .nil)))))
theorem zDj:dM (zAI (top 62) 4) 3 zEc bs zBw=true:=rfl
noncomputable def zDZ:List Str:=["self"]
noncomputable def zB3:MT:=.cons (.ret (.lcp (.fld (.var 0) "order"))) .nil
theorem zDF:dM (zAI (top 62) 5) 1 zDZ bs zB3=true:=rfl
noncomputable def mp0:MT:=.nil
noncomputable def me0:ME:=(.call 4 "covers" (.cons (.var 0) (.cons (.var 1) (.cons (.var 2) .nil))))
theorem pck0:cPre (zAA (top 55)) N41 bs mp0 (zAK (top 55)).dropLast=true:=rfl
theorem eck0:cM me0 (zAA (top 55)) N41 bs (zHi (top 55))=true:=rfl
noncomputable def mp1:MT:=(.cons (.set 3 (.call 5 "thinned_covers" (.cons (.var 1) (.cons (.var 2) (.cons (.fld (.var 0) "shape") (.cons (.fld (.var 0) "strength") .nil)))))) .nil)
noncomputable def me1:ME:=(.var 3)
theorem pck1:cPre (zAA (zAI (top 59) 1)) zBN bs mp1 (zAK (zAI (top 59) 1)).dropLast=true:=rfl
theorem eck1:cM me1 (zAA (zAI (top 59) 1)) zBN bs (zHi (zAI (top 59) 1))=true:=by decide +kernel
noncomputable def G0:Gm:=⟨[],[("NOUGHT",.tup [.int 0,.int 1]),("HALF",.tup [.int 1,.int 2]),("ONE",.tup [.int 1,.int 1]),("cover",.fn 12 "cover"),("rub_film",.fn 18 "rub_film")],[],[],[],[],[("Fill","shape",none),("Fill","ink",none),("Fill","strength",none),("Rub","shape",none),("Rub","strength",none),("Picture","width",none),("Picture","height",none),("Picture","watcher",none),("Picture","order",none),("Picture","layers",none),("Picture","laid",none),("Picture","count",none),("Picture","marks",none),("Picture","grounds",none)]⟩
def F0:List D->Option R:=dFun 1 1 (evSs G0 b0)
def G1:Gm:=G0.add "_wall" F0
def F1:List D->Option R:=dFun 2 3 (evSs G1 b1)
def G2:Gm:=G1.add "common_measure" F1
def F2:List D->Option R:=dFun 2 3 (evSs G2 b2)
def G3:Gm:=G2.add "ratio" F2
def F3:List D->Option R:=dFun 2 2 (evSs G3 b3)
def G4:Gm:=G3.add "plus" F3
def F4:List D->Option R:=dFun 2 2 (evSs G4 b4)
def G5:Gm:=G4.add "minus" F4
def F5:List D->Option R:=dFun 2 2 (evSs G5 b5)
def G6:Gm:=G5.add "times" F5
def F6:List D->Option R:=dFun 2 2 (evSs G6 b6)
def G7:Gm:=G6.add "parted" F6
def F7:List D->Option R:=dFun 1 2 (evSs G7 b7)
def G8:Gm:=G7.add "neighbours_added" F7
def F8:List D->Option R:=dFun 1 2 (evSs G8 b8)
def G9:Gm:=G8.add "total" F8
def F9:List D->Option R:=dFun 2 2 (evSs G9 b9)
def G10:Gm:=G9.add "under" F9
def F10:List D->Option R:=dFun 3 3 (evSs G10 b10)
def G11:Gm:=G10.add "between" F10
def F11:List D->Option R:=dFun 1 1 (evSs G11 b11)
def G12:Gm:=G11.add "whole_part" F11
def F12:List D->Option R:=dFun 1 1 (evSs G12 b12)
def G13:Gm:=G12.add "cover" F12
def F13:List D->Option R:=dFun 0 0 (evSs G13 b13)
def G14:Gm:=G13.add "clear_film" F13
def F14:List D->Option R:=dFun 0 0 (evSs G14 b14)
def G15:Gm:=G14.add "clear_ground" F14
def F15:List D->Option R:=dFun 1 1 (evSs G15 b15)
def G16:Gm:=G15.add "rest_of" F15
def F16:List D->Option R:=dFun 2 2 (evSs G16 b16)
def G17:Gm:=G16.add "multiplied" F16
def F17:List D->Option R:=dFun 2 2 (evSs G17 b17)
def G18:Gm:=G17.add "ink_film" F17
def F18:List D->Option R:=dFun 1 1 (evSs G18 b18)
def G19:Gm:=G18.add "rub_film" F18
def F19:List D->Option R:=dFun 1 1 (evSs G19 b19)
def G20:Gm:=G19.add "sides" F19
def zPm:Gm:=G20.add "numbers_between" (λ_=>none)
def zTB:List D->Option R:=dFun 3 3 (evSs zPm b20)
def zPl:Gm:=G20.add "numbers_between" zTB
def F20:List D->Option R:=dFun 3 3 (evSs zPl b20)
def G21:Gm:=G20.add "numbers_between" F20
def F21:List D->Option R:=dFun 5 6 (evSs G21 b21)
def G22:Gm:=G21.add "rests_at" F21
def F22:List D->Option R:=dFun 2 6 (evSs G22 b22)
def G23:Gm:=G22.add "upright_crossings" F22
def F23:List D->Option R:=dFun 2 6 (evSs G23 b23)
def G24:Gm:=G23.add "level_crossings" F23
def F24:List D->Option R:=dFun 3 3 (evSs G24 b24)
def G25:Gm:=G24.add "comes_ahead" F24
def F25:List D->Option R:=dFun 3 6 (evSs G25 b25)
def G26:Gm:=G25.add "made_one" F25
def F26:List D->Option R:=dFun 3 6 (evSs G26 b26)
def G27:Gm:=G26.add "stops" F26
def F27:List D->Option R:=dFun 2 2 (evSs G27 b27)
def G28:Gm:=G27.add "middle" F27
def F28:List D->Option R:=dFun 2 4 (evSs G28 b28)
def G29:Gm:=G28.add "piece_between" F28
def F29:List D->Option R:=dFun 3 3 (evSs G29 b29)
def G30:Gm:=G29.add "counts_on" F29
def F30:List D->Option R:=dFun 3 5 (evSs G30 b30)
def G31:Gm:=G30.add "pieces" F30
def F31:List D->Option R:=dFun 1 1 (evSs G31 b31)
def G32:Gm:=G31.add "fall" F31
def F32:List D->Option R:=dFun 1 2 (evSs G32 b32)
def G33:Gm:=G32.add "right" F32
def F33:List D->Option R:=dFun 1 1 (evSs G33 b33)
def G34:Gm:=G33.add "empty_lists" F33
def F34:List D->Option R:=dFun 3 6 (evSs G34 b34)
def G35:Gm:=G34.add "all_pieces" F34
def F35:List D->Option R:=dFun 2 5 (evSs G35 b35)
def G36:Gm:=G35.add "row_of_shares" F35
noncomputable def F36:List D->Option R:=λ_=>none
def G37:Gm:=G36.add "shares" F36
noncomputable def F37:List D->Option R:=λ_=>none
def G38:Gm:=G37.add "own_shape" F37
def F38:List D->Option R:=dFun 1 1 (evSs G38 b38)
def G39:Gm:=G38.add "strength_or_one" F38
noncomputable def F39:List D->Option R:=λ_=>none
def G40:Gm:=G39.add "each_changed" F39
noncomputable def F40:List D->Option R:=λ_=>none
def G41:Gm:=G40.add "covers" F40
noncomputable def F41:List D->Option R:=λ_=>none
def G42:Gm:=G41.add "thinned_covers" F41
noncomputable def F42:List D->Option R:=λ_=>none
def G43:Gm:=G42.add "touched_cells" F42
def F43:List D->Option R:=dFun 2 4 (evSs G43 b43)
def G44:Gm:=G43.add "_law_cell" F43
def F44:List D->Option R:=dFun 1 1 (evSs G44 b44)
def G45:Gm:=G44.add "_law_whole" F44
def F45:List D->Option R:=dFun 2 2 (evSs G45 b45)
def G46:Gm:=G45.add "_law_spread" F45
noncomputable def F46:List D->Option R:=λ_=>none
def G47:Gm:=G46.add "_law_stands" F46
noncomputable def F47:List D->Option R:=λ_=>none
def G48:Gm:=G47.add "_law_deed" F47
noncomputable def L0:LamI:=zQs "thinned_covers" (top 55)
noncomputable def lb0:E:=.call 5 "times" (.cons (.var 0) (.cons (.var 1) .nil))
theorem lsc0:zHN "s" ["strength"] L0/\frN L0=(["strength"]:List Str):=zHh rfl λ_ _ _ _ _=>rfl
theorem lck0:cE lb0 L0.scope ("s"::["strength"]) bs L0.body=true:=rfl
def FL0:List D->Option R:=lamD 1 (evE G48 lb0)
def GL0:Gm:=G48.addL L0 FL0
noncomputable def L1:LamI:=zQs "Fill.films" (zAI (top 59) 1)
noncomputable def lb1:E:=.call 17 "ink_film" (.cons (.var 0) (.cons (.fld (.var 1) "ink") .nil))
theorem lsc1:zHN "s" ["self"] L1/\frN L1=(["self"]:List Str):=zHh rfl λ_ _ _ _ _=>rfl
theorem lck1:cE lb1 L1.scope ("s"::["self"]) bs L1.body=true:=rfl
def FL1:List D->Option R:=lamD 1 (evE GL0 lb1)
def GL1:Gm:=GL0.addL L1 FL1
noncomputable def D0:Dm:=[]
def FM33:MF:=zBE 1 1 (evSs' GL1 D0 mb33)
def D1:Dm:=D0.add "empty_lists" FM33
def FM36:MF:=zBE 3 7 (evSs' GL1 D1 mb36)
def D2:Dm:=D1.add "shares" FM36
def FM37:MF:=zBE 1 1 (evSs' GL1 D2 mb37)
def D3:Dm:=D2.add "own_shape" FM37
def FM39:MF:=zBE 2 2 (evSs' GL1 D3 mb39)
def D4:Dm:=D3.add "each_changed" FM39
def FM40:MF:=zBE 3 3 (evSs' GL1 D4 mb40)
def D5:Dm:=D4.add "covers" FM40
def FM41:MF:=lamM FM39 0 L0 [3] P41.length N41.length (zKX GL1 D5 mp0) (evM GL1 D5 me0)
def D6:Dm:=D5.add "thinned_covers" FM41
def FM42:MF:=zBE 1 4 (evSs' GL1 D6 mb42)
def D7:Dm:=D6.add "touched_cells" FM42
def zC4:MF:=zEZ "Fill" 3 (zDX.map λp=>(p.1,evM GL1 D7 p.2))
def D8:Dm:=D7.add "Fill()" zC4
def zDS:MF:=zEZ "Rub" 2 (zED.map λp=>(p.1,evM GL1 D8 p.2))
def D9:Dm:=D8.add "Rub()" zDS
def zCb:MF:=lamM FM39 1 L1 [0] zCs.length zBN.length (zKX GL1 D9 mp1) (evM GL1 D9 me1)
def D10:Dm:=D9.add "Fill.films" zCb
def zCu:MF:=zBE 3 3 (evSs' GL1 D10 zCk)
def D11:Dm:=D10.add "Rub.films" zCu
def zBF:MF:=zEZ "Picture" 3 (zCS.map λp=>(p.1,evM GL1 D11 p.2))
def D12:Dm:=D11.add "Picture()" zBF
def zAO:MF:=zBE 2 2 (evSs' GL1 D12 zA8)
def D13:Dm:=D12.add "Picture.check_lies" zAO
def zAV:MF:=zBE 2 3 (evSs' GL1 D13 zBv)
def D14:Dm:=D13.add "Picture.mark" zAV
def zA4:MF:=zBE 4 4 (evSs' GL1 D14 zB9)
def D15:Dm:=D14.add "Picture.lay" zA4
def zBc:MF:=zBE 2 3 (evSs' GL1 D15 zCA)
def D16:Dm:=D15.add "Picture.add" zBc
def zBV:MF:=zBE 2 2 (evSs' GL1 D16 zBx)
def D17:Dm:=D16.add "Picture.drop" zBV
def zBG:MF:=zBE 3 4 (evSs' GL1 D17 zBa)
def D18:Dm:=D17.add "Picture.change" zBG
def zBU:MF:=zBE 3 3 (evSs' GL1 D18 zBw)
def D19:Dm:=D18.add "Picture.lift" zBU
def zAn:MF:=zBE 1 1 (evSs' GL1 D19 zB3)
def D20:Dm:=D19.add "Picture.numbers" zAn
def FM46:MF:=zBE 2 4 (evSs' GL1 D20 mb46)
def D21:Dm:=D20.add "_law_stands" FM46
def FM47:MF:=zBE 5 8 (evSs' GL1 D21 mb47)
def D22:Dm:=D21.add "_law_deed" FM47
def FM48:MF:=zBE 1 13 (evSs' GL1 D22 mb48)
theorem len1 {U:Type}:∀ {us:List U},us.length=1->∃ a0,us=[a0]
 | [a0],_=>⟨a0,rfl⟩
theorem len2 {U:Type}:∀ {us:List U},us.length=2->∃ a0 a1,us=[a0,a1]
 | [a0,a1],_=>⟨a0,a1,rfl⟩
theorem len3 {U:Type}:∀ {us:List U},us.length=3->∃ a0 a1 a2,us=[a0,a1,a2]
 | [a0,a1,a2],_=>⟨a0,a1,a2,rfl⟩
theorem len4 {U:Type}:∀ {us:List U},us.length=4->∃ a0 a1 a2 a3,us=[a0,a1,a2,a3]
 | [a0,a1,a2,a3],_=>⟨a0,a1,a2,a3,rfl⟩
set_option maxHeartbeats 4000000 in
theorem all_mk {l:W.OpenLaw}(X:K.In h)(G:h.Ns mainGlobals mg)(hfa:mg "law"=some (.ref fa))
    
      
   (lt0:tabQ K "thinned_covers"=some (lc0,lp0))
   (lt1:tabQ K "Fill.films"=some (lc1,lp1))
  
    
  
  (t0:FT K "_wall" (top 0) f0)
  (t1:FT K "common_measure" (top 10) f1)
  (t2:FT K "ratio" (top 11) f2)
  (t3:FT K "plus" (top 12) f3)
  (t4:FT K "minus" (top 13) f4)
  (t5:FT K "times" (top 14) f5)
  (t6:FT K "parted" (top 15) f6)
  (t7:FT K "neighbours_added" (top 16) f7)
  (t8:FT K "total" (top 17) f8)
  (t9:FT K "under" (top 18) f9)
  (t10:FT K "between" (top 19) f10)
  (t11:FT K "whole_part" (top 20) f11)
  (t12:FT K "cover" (top 22) f12)
  (t13:FT K "clear_film" (top 23) f13)
  (t14:FT K "clear_ground" (top 24) f14)
  (t15:FT K "rest_of" (top 25) f15)
  (t16:FT K "multiplied" (top 26) f16)
  (t17:FT K "ink_film" (top 27) f17)
  (t18:FT K "rub_film" (top 28) f18)
  (t19:FT K "sides" (top 30) f19)
  (t20:FT K "numbers_between" (top 32) f20)
  (t21:FT K "rests_at" (top 33) f21)
  (t22:FT K "upright_crossings" (top 34) f22)
  (t23:FT K "level_crossings" (top 35) f23)
  (t24:FT K "comes_ahead" (top 36) f24)
  (t25:FT K "made_one" (top 37) f25)
  (t26:FT K "stops" (top 38) f26)
  (t27:FT K "middle" (top 39) f27)
  (t28:FT K "piece_between" (top 40) f28)
  (t29:FT K "counts_on" (top 41) f29)
  (t30:FT K "pieces" (top 42) f30)
  (t31:FT K "fall" (top 43) f31)
  (t32:FT K "right" (top 44) f32)
  (t33:FT K "empty_lists" (top 46) f33)
  (t34:FT K "all_pieces" (top 47) f34)
  (t35:FT K "row_of_shares" (top 48) f35)
  (t36:FT K "shares" (top 49) f36)
  (t37:FT K "own_shape" (top 51) f37)
  (t38:FT K "strength_or_one" (top 52) f38)
  (t39:FT K "each_changed" (top 53) f39)
  (t40:FT K "covers" (top 54) f40)
  (t41:FT K "thinned_covers" (top 55) f41)
  (t42:FT K "touched_cells" (top 57) f42)
  (t43:FT K "_law_cell" (top 64) f43)
  (t44:FT K "_law_whole" (top 65) f44)
  (t45:FT K "_law_spread" (top 66) f45)
  (t46:FT K "_law_stands" (top 67) f46)
  (t47:FT K "_law_deed" (top 68) f47)
  (a48:W.nsIn K mainGlobals "law"=some (some (.ref f48))) (l48:K.lookup f48=some ⟨oc48,od48,.func (W.fnOf "law" "law" (zAp (top 69)) (zAK (top 69)) (zAA (top 69)) .none kV48 dc48 pm48 an48 cd48 ct48),sl48⟩) (c48:W.codeIn K cd48 "law"=true) (k48:W.keepIn K (.ref f48)=true)
  (z0:W.nsIn K mainGlobals "abs"=some none)
  (z1:W.nsIn K mainGlobals "len"=some none)
  (z2:W.nsIn K mainGlobals "range"=some none)
  (z3:W.nsIn K mainGlobals "list"=some none)
  (z4:W.nsIn K mainGlobals "tuple"=some none)
  (z5:W.nsIn K mainGlobals "zip"=some none)
  (z6:W.nsIn K mainGlobals "reversed"=some none)
  (z7:W.nsIn K mainGlobals "max"=some none)
  (z8:W.nsIn K mainGlobals "isinstance"=some none)
  (z9:W.nsIn K mainGlobals "bool"=some none)
  (z10:W.nsIn K mainGlobals "int"=some none)
  (ca0:W.nsIn K mainGlobals "NOUGHT"=some (some (.ref g0))) (cl0:K.lookup g0=some ⟨.type "tuple",cod0,.seq cit0 cn0,csl0⟩) (cv0:cit0.toList.map absV=[some (.int 0),some (.int 1)])
  (ca1:W.nsIn K mainGlobals "HALF"=some (some (.ref g1))) (cl1:K.lookup g1=some ⟨.type "tuple",cod1,.seq cit1 cn1,csl1⟩) (cv1:cit1.toList.map absV=[some (.int 1),some (.int 2)])
  (ca2:W.nsIn K mainGlobals "ONE"=some (some (.ref g2))) (cl2:K.lookup g2=some ⟨.type "tuple",cod2,.seq cit2 cn2,csl2⟩) (cv2:cit2.toList.map absV=[some (.int 1),some (.int 1)])
  (u_u0:UC K "Fill" o_u0 ["shape","ink","strength"])
  (u_u1:UC K "Rub" o_u1 ["shape","strength"])
  (u_u2:UC K "Picture" o_u2 ["width","height","watcher","order","layers","laid","count","marks","grounds"])
  (m_q0:W.findIn K (.ref o_u0) "__init__"=some (some (.ref f_q0)))
  (i_q0:W.isFn K (.ref f_q0)=true)
  (l_q0:K.lookup f_q0=some ⟨oc_q0,od_q0,.func (W.fnOf "__init__" "Fill.__init__" (zAp (zAI (top 59) 0)) (zAK (zAI (top 59) 0)) (zAA (zAI (top 59) 0)) (.ref T_q0) kV_q0 dc_q0 pm_q0 an_q0 cd_q0 ct_q0),sl_q0⟩)
  (c_q0:W.codeIn K cd_q0 "Fill.__init__"=true)
  (k_q0:W.keepIn K (.ref f_q0)=true)
  (lT_q0:K.lookup T_q0=some ⟨ocT_q0,odT_q0,.seq #[.none] nT_q0,slT_q0⟩)
  (t_q1:FQ K o_u0 f_q1 "films" "Fill.films" (zAI (top 59) 1))
  (m_q2:W.findIn K (.ref o_u1) "__init__"=some (some (.ref f_q2)))
  (i_q2:W.isFn K (.ref f_q2)=true)
  (l_q2:K.lookup f_q2=some ⟨oc_q2,od_q2,.func (W.fnOf "__init__" "Rub.__init__" (zAp (zAI (top 60) 0)) (zAK (zAI (top 60) 0)) (zAA (zAI (top 60) 0)) (.ref T_q2) kV_q2 dc_q2 pm_q2 an_q2 cd_q2 ct_q2),sl_q2⟩)
  (c_q2:W.codeIn K cd_q2 "Rub.__init__"=true)
  (k_q2:W.keepIn K (.ref f_q2)=true)
  (lT_q2:K.lookup T_q2=some ⟨ocT_q2,odT_q2,.seq #[.none] nT_q2,slT_q2⟩)
  (t_q3:FQ K o_u1 f_q3 "films" "Rub.films" (zAI (top 60) 1))
  (m_q4:W.findIn K (.ref o_u2) "__init__"=some (some (.ref f_q4)))
  (i_q4:W.isFn K (.ref f_q4)=true)
  (l_q4:K.lookup f_q4=some ⟨oc_q4,od_q4,.func (W.fnOf "__init__" "Picture.__init__" (zAp (zAI (top 62) 0)) (zAK (zAI (top 62) 0)) (zAA (zAI (top 62) 0)) (.ref T_q4) kV_q4 dc_q4 pm_q4 an_q4 cd_q4 ct_q4),sl_q4⟩)
  (c_q4:W.codeIn K cd_q4 "Picture.__init__"=true)
  (k_q4:W.keepIn K (.ref f_q4)=true)
  (lT_q4:K.lookup T_q4=some ⟨ocT_q4,odT_q4,.seq #[.none] nT_q4,slT_q4⟩)
  (t_q5:FQ K o_u2 f_q5 "add" "Picture.add" (zAI (top 62) 1))
  (t_q6:FQ K o_u2 f_q6 "drop" "Picture.drop" (zAI (top 62) 2))
  (t_q7:FQ K o_u2 f_q7 "change" "Picture.change" (zAI (top 62) 3))
  (t_q8:FQ K o_u2 f_q8 "lift" "Picture.lift" (zAI (top 62) 4))
  (t_q9:FQ K o_u2 f_q9 "numbers" "Picture.numbers" (zAI (top 62) 5))
  (t_q10:FQ K o_u2 f_q10 "check_lies" "Picture.check_lies" (zAI (top 62) 9))
  (t_q11:FQ K o_u2 f_q11 "lay" "Picture.lay" (zAI (top 62) 10))
  (t_q12:FQ K o_u2 f_q12 "mark" "Picture.mark" (zAI (top 62) 11))
  : ∃ fd:FuncData,(∀ (s:Shared) (v:Value),BindsTo s fd ⟨[v],[]⟩ [("_law_script",v)])/\∀ base:Heap,K.In base->base.Ns mainGlobals mg->FnOk l.prog w K mg base CX0 69 fa fd ["_law_script"] (spM K FM48):=by
 have e:=hfa.symm.trans (W.mg_of X G a48);cases e;obtain⟨_,E20⟩:=t20.F;have B20:=E20.binds (ps:=P20) λ_ _ _ _ _ _ us hl=>by obtain⟨_,_,_,rfl⟩:=len3 hl;rfl
 obtain⟨_,E41⟩:=t41.F;have B41:=E41.binds (ps:=P41) λ_ _ _ _ _ _ us hl=>by obtain⟨_,_,_,_,rfl⟩:=len4 hl;rfl
 have E48:=zJ8 (st:=top 69) l48 c48 k48;have B48:=E48.binds (ps:=P48) λ_ _ _ _ _ _ us hl=>by obtain⟨_,rfl⟩:=len1 hl;rfl
 refine⟨W.fnOf "law" "law" (zAp (top 69)) (zAK (top 69)) (zAA (top 69)) .none kV48 dc48 pm48 an48 cd48 ct48,λs v=>.of_eq rfl,λbase _ _=>?_⟩;have g0:GOk l.prog w K mg base 0 G0 bs:=⟨λx F h=>absurd h (by simp[G0]),λx d h=>?_,λx h=>?_,trivial,trivial,trivial,λj L F e=>absurd e (by simp[G0]),λp h=>?_⟩
 .have g1:GOk l.prog w K mg base 1 G1 bs:=g0.addT X G t0 ck0 (bz1 rfl rfl);have g2:GOk l.prog w K mg base 2 G2 bs:=g1.addT X G t1 ck1 (bz2 rfl rfl);have g3:GOk l.prog w K mg base 3 G3 bs:=g2.addT X G t2 ck2 (bz2 rfl rfl);have g4:GOk l.prog w K mg base 4 G4 bs:=g3.addT X G t3 ck3 (bz2 rfl rfl);have g5:GOk l.prog w K mg base 5 G5 bs:=g4.addT X G t4 ck4 (bz2 rfl rfl);have g6:GOk l.prog w K mg base 6 G6 bs:=g5.addT X G t5 ck5 (bz2 rfl rfl);have g7:GOk l.prog w K mg base 7 G7 bs:=g6.addT X G t6 ck6 (bz2 rfl rfl);have g8:GOk l.prog w K mg base 8 G8 bs:=g7.addT X G t7 ck7 (bz1 rfl rfl);have g9:GOk l.prog w K mg base 9 G9 bs:=g8.addT X G t8 ck8 (bz1 rfl rfl);have g10:GOk l.prog w K mg base 10 G10 bs:=g9.addT X G t9 ck9 (bz2 rfl rfl);have g11:GOk l.prog w K mg base 11 G11 bs:=g10.addT X G t10 ck10 (bz3 rfl rfl);have g12:GOk l.prog w K mg base 12 G12 bs:=g11.addT X G t11 ck11 (bz1 rfl rfl);have g13:GOk l.prog w K mg base 13 G13 bs:=g12.addT X G t12 ck12 (bz1 rfl rfl);have g14:GOk l.prog w K mg base 14 G14 bs:=g13.addT X G t13 ck13 (bz0 rfl rfl);have g15:GOk l.prog w K mg base 15 G15 bs:=g14.addT X G t14 ck14 (bz0 rfl rfl);have g16:GOk l.prog w K mg base 16 G16 bs:=g15.addT X G t15 ck15 (bz1 rfl rfl);have g17:GOk l.prog w K mg base 17 G17 bs:=g16.addT X G t16 ck16 (bz2 rfl rfl);have g18:GOk l.prog w K mg base 18 G18 bs:=g17.addT X G t17 ck17 (bz2 rfl rfl);have g19:GOk l.prog w K mg base 19 G19 bs:=g18.addT X G t18 ck18 (bz1 rfl rfl);have g20:GOk l.prog w K mg base 20 G20 bs:=g19.addT X G t19 ck19 (bz1 rfl rfl);have g20_0:GOk l.prog w K mg base 20 zPm bs:=g20.addN E20 (W.mg_of X G t20.a) B20;have g20_1:GOk l.prog w K mg base 21 zPl bs:=g20.addR g20_0 (by decide) E20 sc20 ck20 (W.mg_of X G t20.a) B20;have g21:GOk l.prog w K mg base 22 G21 bs:=g20.addR g20_1 (by decide) E20 sc20 ck20 (W.mg_of X G t20.a) B20;have g22:GOk l.prog w K mg base 23 G22 bs:=g21.addT X G t21 ck21 (bz5 rfl rfl);have g23:GOk l.prog w K mg base 24 G23 bs:=g22.addT X G t22 ck22 (bz2 rfl rfl);have g24:GOk l.prog w K mg base 25 G24 bs:=g23.addT X G t23 ck23 (bz2 rfl rfl);have g25:GOk l.prog w K mg base 26 G25 bs:=g24.addT X G t24 ck24 (bz3 rfl rfl);have g26:GOk l.prog w K mg base 27 G26 bs:=g25.addT X G t25 ck25 (bz3 rfl rfl);have g27:GOk l.prog w K mg base 28 G27 bs:=g26.addT X G t26 ck26 (bz3 rfl rfl);have g28:GOk l.prog w K mg base 29 G28 bs:=g27.addT X G t27 ck27 (bz2 rfl rfl);have g29:GOk l.prog w K mg base 30 G29 bs:=g28.addT X G t28 ck28 (bz2 rfl rfl);have g30:GOk l.prog w K mg base 31 G30 bs:=g29.addT X G t29 ck29 (bz3 rfl rfl);have g31:GOk l.prog w K mg base 32 G31 bs:=g30.addT X G t30 ck30 (bz3 rfl rfl);have g32:GOk l.prog w K mg base 33 G32 bs:=g31.addT X G t31 ck31 (bz1 rfl rfl);have g33:GOk l.prog w K mg base 34 G33 bs:=g32.addT X G t32 ck32 (bz1 rfl rfl);have g34:GOk l.prog w K mg base 35 G34 bs:=g33.addT X G t33 ck33 (bz1 rfl rfl);have g35:GOk l.prog w K mg base 36 G35 bs:=g34.addT X G t34 ck34 (bz3 rfl rfl);have g36:GOk l.prog w K mg base 37 G36 bs:=g35.addT X G t35 ck35 (bz2 rfl rfl)
  have g37:GOk l.prog w K mg base 37 G37 bs:=g36.addU X G t36 zQp (bz3 rfl rfl);have g38:GOk l.prog w K mg base 37 G38 bs:=g37.addU X G t37 zQo (bz1 rfl rfl);have g39:GOk l.prog w K mg base 38 G39 bs:=g38.addT X G t38 ck38 (bz1 rfl rfl);have g40:GOk l.prog w K mg base 38 G40 bs:=g39.addU X G t39 zQn (bz2 rfl rfl);have g41:GOk l.prog w K mg base 38 G41 bs:=g40.addU X G t40 zQm (bz3 rfl rfl);have g42:GOk l.prog w K mg base 38 G42 bs:=g41.addN E41 (W.mg_of X G t41.a) B41;have g43:GOk l.prog w K mg base 38 G43 bs:=g42.addU X G t42 zQl (bz1 rfl rfl);have g44:GOk l.prog w K mg base 39 G44 bs:=g43.addT X G t43 ck43 (bz2 rfl rfl);have g45:GOk l.prog w K mg base 40 G45 bs:=g44.addT X G t44 ck44 (bz1 rfl rfl);have g46:GOk l.prog w K mg base 41 G46 bs:=g45.addT X G t45 ck45 (bz2 rfl rfl);have g47:GOk l.prog w K mg base 41 G47 bs:=g46.addU X G t46 zQk (bz2 rfl rfl);have g48:GOk l.prog w K mg base 41 G48 bs:=g47.addU X G t47 zQj (bz5 rfl rfl);have bk_q0:=λ(s:Shared) (args:Args) (bi:List (Str×Value)) kk (hK:K.In s.heap) h1 h2=>zEL (s:=s) (args:=args) (binds:=bi) (kk:=kk) (fd:=W.fnOf "__init__" "Fill.__init__" (zAp (zAI (top 59) 0)) (zAK (zAI (top 59) 0)) (zAA (zAI (top 59) 0)) (.ref T_q0) kV_q0 dc_q0 pm_q0 an_q0 cd_q0 ct_q0) rfl lT_q0 hK h1 h2
  obtain⟨_,E_q1⟩:=t_q1.F;have B_q1:=E_q1.binds (ps:=zCs) (bz3 rfl rfl);have bk_q2:=λ(s:Shared) (args:Args) (bi:List (Str×Value)) kk (hK:K.In s.heap) h1 h2=>zEL (s:=s) (args:=args) (binds:=bi) (kk:=kk) (fd:=W.fnOf "__init__" "Rub.__init__" (zAp (zAI (top 60) 0)) (zAK (zAI (top 60) 0)) (zAA (zAI (top 60) 0)) (.ref T_q2) kV_q2 dc_q2 pm_q2 an_q2 cd_q2 ct_q2) rfl lT_q2 hK h1 h2
  have bk_q4:=λ(s:Shared) (args:Args) (bi:List (Str×Value)) kk (hK:K.In s.heap) h1 h2=>zEL (s:=s) (args:=args) (binds:=bi) (kk:=kk) (fd:=W.fnOf "__init__" "Picture.__init__" (zAp (zAI (top 62) 0)) (zAK (zAI (top 62) 0)) (zAA (zAI (top 62) 0)) (.ref T_q4) kV_q4 dc_q4 pm_q4 an_q4 cd_q4 ct_q4) rfl lT_q4 hK h1 h2
  have gl0:GOk l.prog w K mg base 42 GL0 bs:=g48.addL lsc0.1 lsc0.2 lck0;have fq0:zG3 K "thinned_covers"=some f41:=by
   unfold zG3;rw[show zOM.lookup ("thinned_covers":Str)=none from by decide +kernel];simp only[t41.a]
  have ld0:zE4 K "thinned_covers" (top 55) f41 N41 (zAK (top 55)).dropLast (zHi (top 55)) "each_changed" L0 [3]:=by
   have cp:=zNc (sc:=zAA (top 55)) (ps:=N41) (ys:=["strength"]) (ix:=[3]) (by decide +kernel);rw[<- lsc0.2] at cp;exact⟨⟨_,_,_,_,rfl⟩,rfl,rfl,by decide,fq0,⟨_,_,lt0⟩,by decide +kernel,by decide,λ_=>rfl,by rw[lsc0.2];decide,cp.1,cp.2,zHo _⟩
  have gl1:GOk l.prog w K mg base 43 GL1 bs:=gl0.addL lsc1.1 lsc1.2 lck1;have fq1:zG3 K "Fill.films"=some f_q1:=by
   unfold zG3;rw[show zOM.lookup ("Fill.films":Str)=some (("Fill":Str),("films":Str)) from by decide +kernel];simp only[show W.nsIn K mainGlobals _=_ from u_u0.a,t_q1.M.1]
  have ld1:zE4 K "Fill.films" (zAI (top 59) 1) f_q1 zBN (zAK (zAI (top 59) 1)).dropLast (zHi (zAI (top 59) 1)) "each_changed" L1 [0]:=by
   have cp:=zNc (sc:=zAA (zAI (top 59) 1)) (ps:=zBN) (ys:=["self"]) (ix:=[0]) (by decide +kernel);rw[<- lsc1.2] at cp;exact⟨⟨_,_,_,_,rfl⟩,rfl,rfl,by decide,fq1,⟨_,_,lt1⟩,by decide +kernel,by decide,λ_=>rfl,by rw[lsc1.2];decide,cp.1,cp.2,zHo _⟩
  have d0:DmOk l.prog w K mg base 43 D0:=λx F h=>absurd h (by simp[D0])
  have d1:DmOk l.prog w K mg base 44 D1:=d0.addT (gl1.mono (by decide)) X G t33 zSc (bz1 rfl rfl);have d2:DmOk l.prog w K mg base 45 D2:=d1.addT (gl1.mono (by decide)) X G t36 zQp (bz3 rfl rfl);have d3:DmOk l.prog w K mg base 46 D3:=d2.addT (gl1.mono (by decide)) X G t37 zQo (bz1 rfl rfl);have d4:DmOk l.prog w K mg base 47 D4:=d3.addT (gl1.mono (by decide)) X G t39 zQn (bz2 rfl rfl);have d5:DmOk l.prog w K mg base 48 D5:=d4.addT (gl1.mono (by decide)) X G t40 zQm (bz3 rfl rfl);have d6:DmOk l.prog w K mg base 49 D6:=d5.addF (gl1.mono (by decide)) E41 sc41 ld0 pck0 eck0 (W.mg_of X G t41.a) B41 (mem_of_getElem? (i:=3) (show D5[3]?=some (("each_changed":Str),FM39) from rfl));have d7:DmOk l.prog w K mg base 50 D7:=d6.addT (gl1.mono (by decide)) X G t42 zQl (bz1 rfl rfl);have fi_q0:=zGw (J:=GL1) (c := "Fill") (C:=o_u0) (y := "self") (ys:=zCr.tail) (L:=zDX) l_q0 c_q0 zIG (by decide +kernel) (by decide) zGx (gl1.mono (by decide)) d7 u_u0.a u_u0.c u_u0.n (by decide +kernel) (by decide +kernel) (by decide +kernel) (by decide);have d8:DmOk l.prog w K mg base 52 D8:=(d7.mono (by decide)).addC (kw := "strength") (j:=51) (by decide) (by decide +kernel) (W.mg_of X G u_u0.a) ⟨u_u0.k,m_q0,i_q0,u_u0.kc⟩ fi_q0 (λs us hK hl=>by obtain⟨_,_,_,_,rfl⟩:=len4 (us:=us) (by simpa [zCr] using hl);exact bk_q0 s _ _ _ hK rfl rfl) (λs us hK hl=>by obtain⟨_,_,_,rfl⟩:=len3 (us:=us) (by simpa [zCr] using hl);exact bk_q0 s _ _ _ hK rfl rfl) (λs us u hK hl=>by obtain⟨_,_,_,rfl⟩:=len3 (us:=us) (by simpa [zCr] using hl);exact bk_q0 s _ _ _ hK rfl rfl);have fi_q2:=zGw (J:=GL1) (c := "Rub") (C:=o_u1) (y := "self") (ys:=zDR.tail) (L:=zED) l_q2 c_q2 zI2 (by decide +kernel) (by decide) zIa (gl1.mono (by decide)) d8 u_u1.a u_u1.c u_u1.n (by decide +kernel) (by decide +kernel) (by decide +kernel) (by decide);have d9:DmOk l.prog w K mg base 54 D9:=(d8.mono (by decide)).addC (kw := "strength") (j:=53) (by decide) (by decide +kernel) (W.mg_of X G u_u1.a) ⟨u_u1.k,m_q2,i_q2,u_u1.kc⟩ fi_q2 (λs us hK hl=>by obtain⟨_,_,_,rfl⟩:=len3 (us:=us) (by simpa [zDR] using hl);exact bk_q2 s _ _ _ hK rfl rfl) (λs us hK hl=>by obtain⟨_,_,rfl⟩:=len2 (us:=us) (by simpa [zDR] using hl);exact bk_q2 s _ _ _ hK rfl rfl) (λs us u hK hl=>by obtain⟨_,_,rfl⟩:=len2 (us:=us) (by simpa [zDR] using hl);exact bk_q2 s _ _ _ hK rfl rfl);have d10:DmOk l.prog w K mg base 55 D10:=d9.addFM (gl1.mono (by decide)) E_q1 zFF ld1 pck1 eck1 B_q1 (mem_of_getElem? (i:=3) (show D9[3]?=some (("each_changed":Str),FM39) from rfl)) u_u0.a u_u0.c t_q1.M (by decide +kernel);have d11:DmOk l.prog w K mg base 56 D11:=d10.addQ (gl1.mono (by decide)) t_q3 u_u1.a u_u1.c zFS (bz3 rfl rfl) (by decide +kernel);have fi_q4:=zGw (J:=GL1) (c := "Picture") (C:=o_u2) (y := "self") (ys:=zBi.tail) (L:=zCS) l_q4 c_q4 zFE (by decide +kernel) (by decide) zEa (gl1.mono (by decide)) d11 u_u2.a u_u2.c u_u2.n (by decide +kernel) (by decide +kernel) (by decide +kernel) (by decide);have d12:DmOk l.prog w K mg base 58 D12:=(d11.mono (by decide)).addC (kw := "watcher") (j:=57) (by decide) (by decide +kernel) (W.mg_of X G u_u2.a) ⟨u_u2.k,m_q4,i_q4,u_u2.kc⟩ fi_q4 (λs us hK hl=>by obtain⟨_,_,_,_,rfl⟩:=len4 (us:=us) (by simpa [zBi] using hl);exact bk_q4 s _ _ _ hK rfl rfl) (λs us hK hl=>by obtain⟨_,_,_,rfl⟩:=len3 (us:=us) (by simpa [zBi] using hl);exact bk_q4 s _ _ _ hK rfl rfl) (λs us u hK hl=>by obtain⟨_,_,_,rfl⟩:=len3 (us:=us) (by simpa [zBi] using hl);exact bk_q4 s _ _ _ hK rfl rfl)
  have d13:DmOk l.prog w K mg base 59 D13:=d12.addQ (gl1.mono (by decide)) t_q10 u_u2.a u_u2.c zCd (bz2 rfl rfl) (by decide +kernel);have d14:DmOk l.prog w K mg base 60 D14:=d13.addQ (gl1.mono (by decide)) t_q12 u_u2.a u_u2.c zDi (bz2 rfl rfl) (by decide +kernel);have d15:DmOk l.prog w K mg base 61 D15:=d14.addQ (gl1.mono (by decide)) t_q11 u_u2.a u_u2.c zD2 (bz4 rfl rfl) (by decide +kernel);have d16:DmOk l.prog w K mg base 62 D16:=d15.addQ (gl1.mono (by decide)) t_q5 u_u2.a u_u2.c zD3 (bz2 rfl rfl) (by decide +kernel);have d17:DmOk l.prog w K mg base 63 D17:=d16.addQ (gl1.mono (by decide)) t_q6 u_u2.a u_u2.c zDk (bz2 rfl rfl) (by decide +kernel);have d18:DmOk l.prog w K mg base 64 D18:=d17.addQ (gl1.mono (by decide)) t_q7 u_u2.a u_u2.c zDO (bz3 rfl rfl) (by decide +kernel);have d19:DmOk l.prog w K mg base 65 D19:=d18.addQ (gl1.mono (by decide)) t_q8 u_u2.a u_u2.c zDj (bz3 rfl rfl) (by decide +kernel);have d20:DmOk l.prog w K mg base 66 D20:=d19.addQ (gl1.mono (by decide)) t_q9 u_u2.a u_u2.c zDF (bz1 rfl rfl) (by decide +kernel);have d21:DmOk l.prog w K mg base 67 D21:=d20.addT (gl1.mono (by decide)) X G t46 zQk (bz2 rfl rfl);have d22:DmOk l.prog w K mg base 68 D22:=d21.addT (gl1.mono (by decide)) X G t47 zQj (bz5 rfl rfl);exact zG9 E48 sc48 zSb (gl1.mono (by decide)) d22
 .simp only [G0,mem_cons,Prod.mk.injEq,List.mem_nil_iff,or_false,not_mem_nil] at h;rcases h with ⟨rfl,rfl⟩ | ⟨rfl,rfl⟩ | ⟨rfl,rfl⟩ | ⟨rfl,rfl⟩ | ⟨rfl,rfl⟩
  .exact zFX (ns:=[0,1]) (W.mg_of X G ca0) cl0 cv0
  .exact zFX (ns:=[1,2]) (W.mg_of X G ca1) cl1 cv1
  .exact zFX (ns:=[1,1]) (W.mg_of X G ca2) cl2 cv2
  .exact ⟨_,.ref f12,W.mg_of X G t12.a,rfl,by rw[Den];exact⟨_,rfl,t12.a⟩⟩
  .exact ⟨_,.ref f18,W.mg_of X G t18.a,rfl,by rw[Den];exact⟨_,rfl,t18.a⟩⟩
 .simp only [bs,mem_cons,List.mem_nil_iff,or_false,not_mem_nil] at h;rcases h with rfl | rfl | rfl | rfl | rfl | rfl | rfl | rfl | rfl | rfl | rfl
  .exact W.mg_none_of X G z0
  .exact W.mg_none_of X G z1
  .exact W.mg_none_of X G z2
  .exact W.mg_none_of X G z3
  .exact W.mg_none_of X G z4
  .exact W.mg_none_of X G z5
  .exact W.mg_none_of X G z6
  .exact W.mg_none_of X G z7
  .exact W.mg_none_of X G z8
  .exact W.mg_none_of X G z9
  .exact W.mg_none_of X G z10
 .simp only [G0,mem_cons,List.mem_nil_iff,or_false,not_mem_nil] at h;rcases h with rfl | rfl | rfl | rfl | rfl | rfl | rfl | rfl | rfl | rfl | rfl | rfl | rfl | rfl
  .exact u_u0.o (by decide)
  .exact u_u0.o (by decide)
  .exact u_u0.o (by decide)
  .exact u_u1.o (by decide)
  .exact u_u1.o (by decide)
  .exact u_u2.o (by decide)
  .exact u_u2.o (by decide)
  .exact u_u2.o (by decide)
  .exact u_u2.o (by decide)
  .exact u_u2.o (by decide)
  .exact u_u2.o (by decide)
  .exact u_u2.o (by decide)
  .exact u_u2.o (by decide)
  .exact u_u2.o (by decide)
end Q
end
section
namespace Q
open PySem DL
open L2
noncomputable def C1:Gm:=G0.ad "_wall" λ_=>none
def E1:List D->Option R:=dFun 2 3 (cvSs C1 b1)
def C2:Gm:=C1.ad "common_measure" E1
def E2:List D->Option R:=dFun 2 3 (cvSs C2 b2)
def C3:Gm:=C2.ad "ratio" E2
def E3:List D->Option R:=dFun 2 2 (cvSs C3 b3)
def C4:Gm:=C3.ad "plus" E3
def E4:List D->Option R:=dFun 2 2 (cvSs C4 b4)
def C5:Gm:=C4.ad "minus" E4
def E5:List D->Option R:=dFun 2 2 (cvSs C5 b5)
def C6:Gm:=C5.ad "times" E5
def E6:List D->Option R:=dFun 2 2 (cvSs C6 b6)
def C7:Gm:=C6.ad "parted" E6
def E7:List D->Option R:=dFun 1 2 (cvSs C7 b7)
def C8:Gm:=C7.ad "neighbours_added" E7
def E8:List D->Option R:=dFun 1 2 (cvSs C8 b8)
def C9:Gm:=C8.ad "total" E8
def E9:List D->Option R:=dFun 2 2 (cvSs C9 b9)
def C10:Gm:=C9.ad "under" E9
def E10:List D->Option R:=dFun 3 3 (cvSs C10 b10)
def C11:Gm:=C10.ad "between" E10
def E11:List D->Option R:=dFun 1 1 (cvSs C11 b11)
def C12:Gm:=C11.ad "whole_part" E11
def E12:List D->Option R:=dFun 1 1 (cvSs C12 b12)
def C13:Gm:=C12.ad "cover" E12
def E13:List D->Option R:=dFun 0 0 (cvSs C13 b13)
def C14:Gm:=C13.ad "clear_film" E13
def E14:List D->Option R:=dFun 0 0 (cvSs C14 b14)
def C15:Gm:=C14.ad "clear_ground" E14
def E15:List D->Option R:=dFun 1 1 (cvSs C15 b15)
def C16:Gm:=C15.ad "rest_of" E15
def E16:List D->Option R:=dFun 2 2 (cvSs C16 b16)
def C17:Gm:=C16.ad "multiplied" E16
def E17:List D->Option R:=dFun 2 2 (cvSs C17 b17)
def C18:Gm:=C17.ad "ink_film" E17
def E18:List D->Option R:=dFun 1 1 (cvSs C18 b18)
def C19:Gm:=C18.ad "rub_film" E18
def E19:List D->Option R:=dFun 1 1 (cvSs C19 b19)
def C20:Gm:=C19.ad "sides" E19
def zSG:Gm:=C20.ad "numbers_between" λ_=>none
def zTC:List D->Option R:=dFun 3 3 (cvSs zSG b20)
def zSF:Gm:=C20.ad "numbers_between" zTC
def E20:List D->Option R:=dFun 3 3 (cvSs zSF b20)
def C21:Gm:=C20.ad "numbers_between" E20
def E21:List D->Option R:=dFun 5 6 (cvSs C21 b21)
def C22:Gm:=C21.ad "rests_at" E21
def E22:List D->Option R:=dFun 2 6 (cvSs C22 b22)
def C23:Gm:=C22.ad "upright_crossings" E22
def E23:List D->Option R:=dFun 2 6 (cvSs C23 b23)
def C24:Gm:=C23.ad "level_crossings" E23
def E24:List D->Option R:=dFun 3 3 (cvSs C24 b24)
def C25:Gm:=C24.ad "comes_ahead" E24
def E25:List D->Option R:=dFun 3 6 (cvSs C25 b25)
def C26:Gm:=C25.ad "made_one" E25
def E26:List D->Option R:=dFun 3 6 (cvSs C26 b26)
def C27:Gm:=C26.ad "stops" E26
def E27:List D->Option R:=dFun 2 2 (cvSs C27 b27)
def C28:Gm:=C27.ad "middle" E27
def E28:List D->Option R:=dFun 2 4 (cvSs C28 b28)
def C29:Gm:=C28.ad "piece_between" E28
def E29:List D->Option R:=dFun 3 3 (cvSs C29 b29)
def C30:Gm:=C29.ad "counts_on" E29
def E30:List D->Option R:=dFun 3 5 (cvSs C30 b30)
def C31:Gm:=C30.ad "pieces" E30
def E31:List D->Option R:=dFun 1 1 (cvSs C31 b31)
def C32:Gm:=C31.ad "fall" E31
def E32:List D->Option R:=dFun 1 2 (cvSs C32 b32)
def C33:Gm:=C32.ad "right" E32
noncomputable def E33:List D->Option R:=λ_=>none
def C34:Gm:=C33.ad "empty_lists" E33
def E34:List D->Option R:=dFun 3 6 (cvSs C34 b34)
def C35:Gm:=C34.ad "all_pieces" E34
def E35:List D->Option R:=dFun 2 5 (cvSs C35 b35)
theorem g1:GLe C1 G1:=zAR ⟨rfl,rfl,λn x F e=>⟨F,e,zAw⟩⟩ zAB
theorem e1:Le E1 F1:=zAj g1 b1
theorem g2:GLe C2 G2:=zAR g1 e1
theorem e2:Le E2 F2:=zAj g2 b2
theorem g3:GLe C3 G3:=zAR g2 e2
theorem e3:Le E3 F3:=zAj g3 b3
theorem g4:GLe C4 G4:=zAR g3 e3
theorem e4:Le E4 F4:=zAj g4 b4
theorem g5:GLe C5 G5:=zAR g4 e4
theorem e5:Le E5 F5:=zAj g5 b5
theorem g6:GLe C6 G6:=zAR g5 e5
theorem e6:Le E6 F6:=zAj g6 b6
theorem g7:GLe C7 G7:=zAR g6 e6
theorem e7:Le E7 F7:=zAj g7 b7
theorem g8:GLe C8 G8:=zAR g7 e7
theorem e8:Le E8 F8:=zAj g8 b8
theorem g9:GLe C9 G9:=zAR g8 e8
theorem e9:Le E9 F9:=zAj g9 b9
theorem g10:GLe C10 G10:=zAR g9 e9
theorem e10:Le E10 F10:=zAj g10 b10
theorem g11:GLe C11 G11:=zAR g10 e10
theorem e11:Le E11 F11:=zAj g11 b11
theorem g12:GLe C12 G12:=zAR g11 e11
theorem e12:Le E12 F12:=zAj g12 b12
theorem g13:GLe C13 G13:=zAR g12 e12
theorem e13:Le E13 F13:=zAj g13 b13
theorem g14:GLe C14 G14:=zAR g13 e13
theorem e14:Le E14 F14:=zAj g14 b14
theorem g15:GLe C15 G15:=zAR g14 e14
theorem e15:Le E15 F15:=zAj g15 b15
theorem g16:GLe C16 G16:=zAR g15 e15
theorem e16:Le E16 F16:=zAj g16 b16
theorem g17:GLe C17 G17:=zAR g16 e16
theorem e17:Le E17 F17:=zAj g17 b17
theorem g18:GLe C18 G18:=zAR g17 e17
theorem e18:Le E18 F18:=zAj g18 b18
theorem g19:GLe C19 G19:=zAR g18 e18
theorem e19:Le E19 F19:=zAj g19 b19
theorem g20:GLe C20 G20:=zAR g19 e19
theorem g20_0:GLe zSG zPm:=zAR g20 zAB
theorem g20_1:GLe zSF zPl:=zAR g20 (zAj g20_0 b20)
theorem e20:Le E20 F20:=zAj g20_1 b20
theorem g21:GLe C21 G21:=zAR g20 e20
theorem e21:Le E21 F21:=zAj g21 b21
theorem g22:GLe C22 G22:=zAR g21 e21
theorem e22:Le E22 F22:=zAj g22 b22
theorem g23:GLe C23 G23:=zAR g22 e22
theorem e23:Le E23 F23:=zAj g23 b23
theorem g24:GLe C24 G24:=zAR g23 e23
theorem e24:Le E24 F24:=zAj g24 b24
theorem g25:GLe C25 G25:=zAR g24 e24
theorem e25:Le E25 F25:=zAj g25 b25
theorem g26:GLe C26 G26:=zAR g25 e25
theorem e26:Le E26 F26:=zAj g26 b26
theorem g27:GLe C27 G27:=zAR g26 e26
theorem e27:Le E27 F27:=zAj g27 b27
theorem g28:GLe C28 G28:=zAR g27 e27
theorem e28:Le E28 F28:=zAj g28 b28
theorem g29:GLe C29 G29:=zAR g28 e28
theorem e29:Le E29 F29:=zAj g29 b29
theorem g30:GLe C30 G30:=zAR g29 e29
theorem e30:Le E30 F30:=zAj g30 b30
theorem g31:GLe C31 G31:=zAR g30 e30
theorem e31:Le E31 F31:=zAj g31 b31
theorem g32:GLe C32 G32:=zAR g31 e31
theorem e32:Le E32 F32:=zAj g32 b32
theorem g33:GLe C33 G33:=zAR g32 e32
theorem e33:Le E33 F33:=zAB
theorem g34:GLe C34 G34:=zAR g33 e33
theorem e34:Le E34 F34:=zAj g34 b34
theorem g35:GLe C35 G35:=zAR g34 e34
theorem e35:Le E35 F35:=zAj g35 b35
abbrev oz (b:Bool):D:=.tup [.int (cond b 1 0),.int 1]
abbrev pz (a b:Bool):D:=.tup [oz a,oz b]
noncomputable def shB (s:Bool):List (List D):=cond s [[pz false false,pz true false,pz true true,pz false true]] []
noncomputable def zsA:List Pz:=[⟨0,0,pz false false,pz true false,oz false,oz false⟩,⟨1,0,pz true false,pz true true,.tup [.int (-1),.int 1],.tup [.int (-1),.int 1]⟩,⟨0,1,pz true true,pz false true,oz false,oz false⟩,⟨0,0,pz false true,pz false false,oz true,oz true⟩]
noncomputable def zsB (s:Bool)(w h:Nat):List Pz:=cond s (zsA.filter λz=>decide (z.c < w)&&decide (z.r < h)) []
noncomputable def rowB (s:Bool)(w r:Nat):List Bool:=(List.range w).map λc=>s&&r==0&&c==0
noncomputable def tabB (s:Bool)(w h:Nat):List (List Bool):=(List.range h).map (rowB s w)
structure Fl (w h:Nat):Prop where
 w1:1<=w
 w2:w<=3
 h1:1<=h
 h2:h<=2
theorem Fl.ind {P:Nat->Nat->Prop}(h11:P 1 1)(h12:P 1 2)(h21:P 2 1)(h22:P 2 2)(h31:P 3 1)(h32:P 3 2):∀ {w h:Nat},Fl w h->P w h:=λ{w h} f=>by
 obtain⟨a,b,c,d⟩:=f;grind
theorem x34 (s:Bool)(f:Fl w h):F34 [.int w,.int h,.lst ((shB s).map .lst)]=some (.lst ((zsB s w h).map Pz.d),.fr):=by
 revert f
 apply Fl.ind<;>cases s<;>exact e34 _ _ (by kernel_rfl)
theorem x35 (s:Bool)(f:Fl w h):∀ r,r < h->F35 [.lst ((List.range (w+1)).map λc=>.lst (fc Pz.f (zsB s w h) r c)),.lst ((List.range (w+1)).map λc=>.lst (fc Pz.g (zsB s w h) r c))]=some (.lst ((rowB s w r).map oz),.fr):=by
 have two:∀ {P:Nat->Prop},P 0->P 1->∀ r,r < 2->P r:=λp q r hr=>by
  grind
 have one:∀ {P:Nat->Prop},P 0->∀ r,r < 1->P r:=λp r hr=>by
  grind
 revert f
 apply Fl.ind<;>cases s<;>first
  | exact one (e35 _ _ (by kernel_rfl))
  | exact two (e35 _ _ (by kernel_rfl)) (e35 _ _ (by kernel_rfl))
theorem xA:∀ z∈zsA,(0<=z.r/\-1<=z.c)/\(noL z.d&&noL z.f&&noL z.g)=true/\F31 [z.d]=some (z.f,.cl)/\F32 [z.d]=some (z.g,.cl):=λz hz=>by
 simp only[zsA,mem_cons,not_mem_nil,or_false] at hz;rcases hz with rfl | rfl | rfl | rfl<;>exact⟨by decide,by decide,e31 _ _ (by kernel_rfl),e32 _ _ (by kernel_rfl)⟩
theorem zB (hz:z∈zsB s w h):z∈zsA/\z.c < w/\z.r < h:=by
 cases s with
 | false=>cases hz
 | true =>
  have:=mem_filter.mp hz;simpa using this
theorem zNA:∀ bs:List Bool,noLs (bs.map oz)=true
 | []=>rfl
 | b::bs=>by rw[map_cons,noLs,zNA bs];rfl
theorem zok (s:Bool)(f:Fl w h):ZOk F34 F31 F32 F35 w h (.lst ((shB s).map .lst)) (zsB s w h) λr=>(rowB s w r).map oz :=
  ⟨by have:=f.w2;omega,by have:=f.h2;omega,by
    cases s with
    | false=>exact zero_le _
    | true=>exact le_trans (length_filter_le _ _) (by decide),x34 s f,λz hz=>by
    obtain⟨h1,h2,h3⟩:=zB hz;obtain⟨⟨a,b⟩,c,_⟩:=xA z h1
    simp_all
    exact⟨a,h3,b,h2,c.1.1,c.1.2,c.2⟩,λz hz=>(xA z (zB hz).1).2.2.1,λz hz=>(xA z (zB hz).1).2.2.2,x35 s f,λr _=>zNA _⟩
theorem x12 (b:Bool):F12 [oz b]=some (oz b,.cl):=by cases b<;>exact e12 _ _ rfl
theorem x5 (b:Bool):F5 [oz b,oz true]=some (oz b,.cl):=by cases b<;>exact e5 _ _ rfl
noncomputable def fmI (b:Bool):Fm:=cond b ⟨0,1,1,2,3⟩ ⟨1,0,0,0,0⟩
noncomputable def fmR (b:Bool):Fm:=cond b ⟨0,0,0,0,0⟩ ⟨1,0,0,0,0⟩
theorem x17 (b:Bool):F17 [oz b,inkD 1 2 3]=some (fmD (fmI b),.cl):=by cases b<;>exact e17 _ _ rfl
theorem x18 (b:Bool):F18 [oz b]=some (fmD (fmR b),.cl):=by cases b<;>exact e18 _ _ (by kernel_rfl)
theorem h38:F38 [.non]=some (oz true,.cl):=rfl
theorem h43:zSE F43:=zPZ
theorem h44:zSC F44:=λi Q h=>zK6 h
theorem h45:zK0 F45:=zIv
theorem m33:zIA FM33:=zMQ
structure Kq (G μ2:Mem):Prop where
 le:G.length<=μ2.length
 kp:∀ x,x < G.length->μ2[x]?=G[x]?
theorem zBR {γ:Mem}:Kq G (G++γ):=⟨by rw[qj];omega,λx hx=>getElem?_append_left hx⟩
theorem zCF :Kq G G:=⟨le_refl _,λ_ _=>rfl⟩
theorem Kq.trans {μ2:Mem}(a:Kq G μ2)(b:Kq μ2 O6):Kq G O6:=⟨le_trans a.le b.le,λx hx=>(b.kp x (xQ hx a.le)).trans (a.kp x hx)⟩
theorem Kq.ll {μ2:Mem}(k:Kq G μ2)(e:Ll G n l):Ll μ2 n l:=e.keep (k.kp n e.lt.1) λp hp=>k.kp p.1 (e.lt.2 p hp)
theorem Kq.set {μ2:Mem}(k:Kq G μ2)(h:G.length<=n):Kq G (μ2.set n ws):=⟨by rw[length_set];exact k.le,λx hx=>(getElem?_set_ne (by omega)).trans (k.kp x hx)⟩
theorem Kq.app {μ2 γ:Mem}(k:Kq G μ2):Kq G (μ2++γ):=k.trans zBR
structure Rw (G:Mem)(n b:Nat)(l:Lp)(rows:List (List D)):Prop where
 ll:Ll G n l
 lo:∀ p∈l,b<=p.1
 top:b<=n
 snd:l.map (λp=>p.2)=rows
theorem Rw.len (e:Rw G n b l rows):l.length=rows.length:=by rw[<- e.snd,List.length_map]
theorem Rw.dr (e:Rw G n b l rows):drW G (.loc n)=some (.lst (rows.map .lst)):=by
 rw[e.ll.dr,<- e.snd,map_map]
 rfl
theorem Rw.keep {μ2:Mem}(e:Rw G n b l rows)(k:Kq G μ2):Rw μ2 n b l rows:=⟨k.ll e.ll,e.lo,e.top,e.snd⟩
theorem Rw.lt (e:Rw G n b l rows):n < G.length:=e.ll.lt.1
theorem Rw.below (e:Rw G n b l rows)(h:c<=b):Rw G n c l rows:=⟨e.ll,λp hp=>le_trans h (e.lo p hp),le_trans h e.top,e.snd⟩
theorem zI4 {U:Type}{J:Gm}{Y:Dm}{nm:Str}{N n b:Nat}{ms:List Nat}{src el:ME}{O:List (Option W)}{U4 G:Mem}{l:Lp}{as:List U}{u v:U->List D}{Q:MR->Prop}(hs:EvP (evSrc J Y src ⟨O,U4⟩) λr=>r=(.live n,G))(e:Rw G n b l (as.map u))(hN:(mask none ms O).length=N)(hl:as.length<=100)
  (he:∀ (γ:Mem) (m:Nat) (a:U),a∈as->(G++γ)[m]?=some ((u a).map .dat)->EvP (evM J Y el ⟨mask none ms O++[some (.loc m)],G++γ⟩) λr=>r=(.loc (G++γ).length,G++γ++[(v a).map .dat]))
  (hQ:∀ (γ:Mem) (l':Lp),Rw (G++γ) (G.length+as.length) G.length l' (as.map v)->Q (.loc (G.length+as.length),G++γ)) :
  EvP (evM J Y (.comp N ms nm src el) ⟨O,U4⟩) Q:=by
 obtain⟨r,er,rfl⟩:=hs;refine zEo ⟨_,er,?_⟩;have ll:=e.len;rw[List.length_map] at ll;obtain⟨y,s',M,ey,⟨o,p1,p2,p3⟩,p4⟩:=zEy (t:=tgM N) (e:=evM J Y el) (src:=.live n) (s:=⟨mask none ms O++[none],G⟩) (l.map λp=>.loc p.1)
  (λj s d=>∃ o:Option W,s=⟨mask none ms O++[o],G++(as.take j).map λa=>(v a).map W.dat⟩/\d=news G.length j/\j<=as.length) (λj s d zy161=>by obtain⟨o,p1,_,_⟩:=zy161;subst p1;exact zAi e.ll.top) (λj w s d ew zz140=>by
   obtain⟨o,p1,p2,p3⟩:=zz140;subst p1 p2;rw[getElem?_map] at ew;obtain⟨p,ep,rfl⟩:=x9.mp ew;have hj:j < as.length:=by rw[<- ll];exact(zzg ep).1
   have ea:as[j]?=some as[j]:=getElem?_eq_getElem hj;have e2:p.2=u as[j]:=by
    have h1:(l.map λp=>p.2)[j]?=some p.2:=by rw[getElem?_map,ep];rfl
    rw[e.snd,getElem?_map,ea] at h1;exact(xj h1).symm
   have mp:=mem_of_getElem? ep;have hr:=e.ll.row p mp;rw[e2] at hr;have lm:(G++(as.take j).map λa=>(v a).map W.dat).length=G.length+j:=by rw[qj,List.length_map,length_take];omega
   refine⟨by rw[zCy];omega,⟨mask none ms O++[some (.loc p.1)],G++(as.take j).map λa=>(v a).map W.dat⟩,(.loc (G++(as.take j).map λa=>(v a).map W.dat).length,(G++(as.take j).map λa=>(v a).map W.dat)++[(v as[j]).map .dat]),?_,(he _ p.1 as[j] (mem_of_getElem? ea) (zAi hr)).eq,some (.loc p.1),?_,?_,by omega⟩
   .unfold tgM;dsimp only;rw[List.set_append_right _ _ (by omega),hN,sub_self]
    rfl
   .rw [List.take_add_one,ea,Option.toList_some,xJ,qJ];rfl
   .rw [zD0,lm]) ⟨none,by rw[List.take_zero,map_nil,append_nil],rfl,zero_le _⟩
 rw[List.length_map,ll] at p1 p2;subst p1;rw[List.take_length] at p4;have e2:y=(news G.length as.length,G++as.map λa=>(v a).map W.dat):=Prod.ext p2 p4.symm;refine⟨y,M,ey,by rw[p2,zCy];omega,?_⟩;rw[e2];have lm:(G++as.map λa=>(v a).map W.dat).length=G.length+as.length:=by rw[qj,List.length_map]
 dsimp only;rw[lm,qJ];have im:∀ p∈(List.range as.length).map (λj=>(G.length+j,((as[j]?).map v).getD [])),∃ j,j < as.length/\∃ a,as[j]?=some a/\p=(G.length+j,v a):=λp hp=>by
  obtain⟨j,hj,rfl⟩:=mem_map.mp hp;have hj:=mem_range.mp hj;exact⟨j,hj,as[j],getElem?_eq_getElem hj,by rw[getElem?_eq_getElem hj];rfl⟩
 refine hQ _ ((List.range as.length).map λj=>(G.length+j,((as[j]?).map v).getD [])) ⟨⟨?_,λp hp=>?_⟩,λp hp=>?_,Nat.le_add_right _ _,?_⟩
 .rw [<- qJ,getElem?_append_right (by rw[lm];exact le_refl _),lm,sub_self,map_map]
  rfl
 .obtain ⟨j,hj,a,ea,rfl⟩:=im p hp;dsimp only;rw[<- qJ,getElem?_append_left (by rw[lm];omega),getElem?_append_right (by omega),Nat.add_sub_cancel_left,getElem?_map,ea]
  rfl
 .obtain ⟨j,hj,a,ea,rfl⟩:=im p hp;exact Nat.le_add_right _ _
 .rw [map_map];apply List.ext_getElem?;intro i;rw[getElem?_map,getElem?_map];by_cases q:i < as.length
  .rw [getElem?_range q,getElem?_eq_getElem q];simp[getElem?_eq_getElem q]
  .rw [getElem?_eq_none (by rw[length_range];omega),getElem?_eq_none (by omega)]
   rfl
theorem zP9 {U:Type}{J:Gm}{Y:Dm}{nm:Str}{N m:Nat}{ms:List Nat}{src el:ME}{O:List (Option W)}{G:Mem}{as:List U}{u v:U->D}{Q:MR->Prop}(hs:EvP (evSrc J Y src ⟨O,G⟩) λr=>r=(.live m,G))(e:G[m]?=some ((as.map u).map .dat))(hN:(mask none ms O).length=N)(hl:as.length<=100)
  (he:∀ a∈as,EvP (evM J Y el ⟨mask none ms O++[some (.dat (u a))],G⟩) λr=>r=(.dat (v a),G)) (hQ:Q (.loc G.length,G++[(as.map v).map .dat])) :
  EvP (evM J Y (.comp N ms nm src el) ⟨O,G⟩) Q:=by
 obtain⟨r,er,rfl⟩:=hs;refine zEo ⟨_,er,?_⟩;obtain⟨y,s',M,ey,⟨o,p1,p2⟩,p4⟩:=zEy (t:=tgM N) (e:=evM J Y el) (src:=.live m) (s:=⟨mask none ms O++[none],G⟩) ((as.map u).map .dat)
  (λj s d=>∃ o:Option W,s=⟨mask none ms O++[o],G⟩/\d=((as.map v).take j).map W.dat) (λj s d zy162=>by obtain⟨o,q1,_⟩:=zy162;subst q1;exact e) (λj w s d ew zz141=>by
   obtain⟨o,q1,q2⟩:=zz141;subst q1 q2;rw[getElem?_map,getElem?_map] at ew;obtain⟨d1,ew1,rfl⟩:=x9.mp ew;obtain⟨a,ea,rfl⟩:=x9.mp ew1;refine⟨by rw[List.length_map,length_take,List.length_map];omega,⟨mask none ms O++[some (.dat (u a))],G⟩,(.dat (v a),G),?_,(he a (mem_of_getElem? ea)).eq,some (.dat (u a)),rfl,?_⟩
   .unfold tgM;dsimp only;rw[List.set_append_right _ _ (by omega),hN,sub_self]
    rfl
   .rw [List.take_add_one,getElem?_map,ea,xJ]
    rfl) ⟨none,rfl,rfl⟩
 rw[List.length_map,List.length_map] at p2;subst p1;have e2:y=((as.map v).map W.dat,G):=Prod.ext (by rw[p2,List.take_of_length_le (by rw[List.length_map];exact le_refl _)]) p4.symm;refine⟨y,M,ey,by rw[e2];show ((as.map v).map W.dat).length<=_;rw[List.length_map,List.length_map];omega,?_⟩;rw[e2];exact hQ
theorem idx (e:((rngL 0 n).map W.dat)[j]?=some y):y=.dat (.int (j:Int))/\j < n:=by
 have hj:j < n:=by
  have:=(zzg e).1;rw[List.length_map,zBe] at this;omega
 unfold rngL at e
 simp_all
theorem nrng :((rngL 0 n).map W.dat).length=n:=by rw[List.length_map,zBe]
theorem zBD {G:Mem}{ws:List W}:(G++[ws])[G.length]?=some ws:=by rw[getElem?_append_right (le_refl _),sub_self];rfl
theorem zFV {G:Mem}{ws vs:List W}:(G++[ws]).set G.length vs=G++[vs]:=by simp
theorem zKO (e:O[i]?=some (some (.fn n x,false)))(el:J.fns[n]?=some (x,F))(h:EvP (evE J a O) λy=>y.2≠.dt/\EvP (F [y.1]) λr=>r.2≠.dt/\Q r):EvP (evE J (.callv i a) O) Q:=by
 obtain⟨y,ey,ny,r,er,nr,q⟩:=h;refine⟨r,?_,q⟩;show zEQ J.lm J.fns i _ O=_;unfold zEQ;have e3:fnvF J.fns n x [y.1]=some r:=by unfold fnvF;rw[el];exact(if_pos rfl).trans er
 simp_all
def CV (f d d':D):Prop:=∀ (O:Dst) (i j:Nat) (Q:R->Prop),O[i]?=some (some (f,false))->O[j]?=some (some (d,false))->Q (d',.cl)->EvP (evE GL1 (.callv i (.var j)) O) Q
theorem zR6 (el:GL1.fns[n]?=some (x,F))(h:∀ Q:R->Prop,Q (d',.cl)->EvP (F [d]) Q):CV (.fn n x) d d':=λO i j Q e1 e2 q =>
 zKO e1 el (zAZ e2 ⟨(λz=>nomatch z),h _ ⟨(λz=>nomatch z),q⟩⟩)
theorem zNZ (el:GL1.lm[J]?=some (L,FL))(h:∀ Q:R->Prop,Q (d',.cl)->EvP (FL (d::dl)) Q):CV (.lam J L dl) d d':=λO i j Q e1 e2 q =>
 zMF e1 el (zAZ e2 ⟨(λz=>nomatch z),h _ ⟨(λz=>nomatch z),q⟩⟩)
theorem m39 {f:D}(hf:noL f=true){U:Type}{rows:List (List U)}{u v:U->D}{n b:Nat}{G:Mem}{l:Lp}{Q:MR->Prop}(e:Rw G n b l (rows.map (List.map u)))(hl:rows.length<=100)(hr:∀ qs∈rows,qs.length<=100/\∀ q∈qs,CV f (u q) (v q)/\noL (v q)=true)
  (hQ:∀ (γ:Mem) (l':Lp),Rw (G++γ) (G.length+rows.length) G.length l' (rows.map (List.map v))->Q (.loc (G.length+rows.length),G++γ)):EvP (FM39 [.loc n,.dat f] G) Q:=by
 refine zCU rfl (by decide) ?_;unfold mb39;refine zAC (zBt (zI4 (as:=rows) (v:=List.map v) (zDT (zAF rfl ⟨n,rfl,rfl⟩)) e rfl hl (fun γ m qs hq em=>?_) fun γ l' R'=>zDP (hQ γ l' R')));obtain⟨h1,h2⟩:=hr qs hq;refine zP9 (as:=qs) (u:=u) (v:=v) (zDT (zAF rfl ⟨m,rfl,rfl⟩)) em rfl h1 (λq mq=>?_) rfl;obtain⟨c1,c2⟩:=h2 q mq;exact zAm rfl (c1 _ 1 3 _ (zAJ rfl zAM) (zAJ rfl zAM) (zAl c2 rfl))
theorem zHT (s:Bool)(w h:Nat):(tabB s w h).length=h:=by unfold tabB;rw[List.length_map,length_range]
theorem zHS {bs:List Bool}(hb:bs∈tabB s w h):bs.length=w:=by
 obtain⟨r,_,rfl⟩:=mem_map.mp hb;unfold rowB;rw[List.length_map,length_range]
theorem zMf (hf:noL f=true)(fl:Fl w h)(c:∀ b,CV f (u b) (v b))(n:∀ b,noL (v b)=true)(e:Rw G m b l ((tabB s w h).map (List.map u)))
  (hQ:∀ (γ:Mem) (m:Nat) (l':Lp),Rw (G++γ) m G.length l' ((tabB s w h).map (List.map v))->Q (.loc m,G++γ)):EvP (FM39 [.loc m,.dat f] G) Q :=
 m39 hf e (by rw[zHT];have:=fl.h2;omega) (λbs hb=>⟨by rw[zHS hb];have:=fl.w2;omega,λb _=>⟨c b,n b⟩⟩) fun γ l' R=>hQ γ _ l' R
theorem zSR (f:Fl w h)(dr:drW G x=some (.lst ((shB s).map .lst)))(hQ:∀ (γ:Mem) (m:Nat) (l:Lp),Rw (G++γ) m G.length l ((tabB s w h).map (List.map oz))->Q (.loc m,G++γ)):EvP (FM36 [.dat (.int (w:Int)),.dat (.int (h:Int)),x] G) Q:=by
 refine zIy (na:=34) (nf:=31) (nr:=32) (nw:=35) (ne:=0) rfl rfl rfl rfl rfl m33 (zok s f) dr fun γ=>?_
 have T:=zQq (G++γ) (λr=>(rowB s w r).map oz) h;have e:G++γ++zBj (λr=>(rowB s w r).map oz) h++[news (G++γ).length h]=G++(γ++zBj (λr=>(rowB s w r).map oz) h++[news (G++γ).length h]):=by simp only[qJ]
 rw[e] at T ⊢;refine hQ _ _ _ ⟨T,λp hp=>?_,by rw[qj];omega,?_⟩
 .obtain ⟨r,hr,rfl⟩:=zJc hp;grind
 .unfold lpT tabB;rw[map_map,map_map]
  rfl
theorem m40 (f:Fl w h)(dr:drW G x=some (.lst ((shB s).map .lst)))(hQ:∀ (γ:Mem) (m:Nat) (l:Lp),Rw (G++γ) m G.length l ((tabB s w h).map (List.map oz))->Q (.loc m,G++γ)):EvP (FM40 [.dat (.int (w:Int)),.dat (.int (h:Int)),x] G) Q:=by
 refine zCU rfl (by decide) ?_;unfold mb40;refine zAC (zBt (zCE (F:=FM39) rfl (zAE (zCE (F:=FM36) rfl (zAE (zAF rfl (zAE (zAF rfl (zAE (zAF rfl (zAY ?_)))))))))));refine zSR f dr fun γ m l R1=>?_
 refine zAE (zAm rfl (zFc (d:=.fn 12 "cover") rfl (zAl rfl (zAY ?_))));refine(show EvP (FM39 [.loc m,.dat (.fn 12 "cover")] (G++γ)) _ from ?_);refine zMf (v:=oz) rfl f (λb=>zR6 (F:=F12) rfl λQ q=>⟨_,x12 b,q⟩) (λ_=>rfl) R1 λO4 m2 l2 R2=>zDP ?_
 rw[qJ] at R2 ⊢;exact hQ _ _ _ (R2.below (by rw[qj];omega))
theorem zNG (h1:ws.length=np)(h2:np<=nN)
  (h:EvP (gp ⟨ws.map some++List.replicate (nN - np) none,G⟩) λo=>∃ s,o=.nx s/\EvP (ge s) λw=>∃ ds,capD ix s.O=some ds/\noLs ds=true/\EvP (Fg [w.1,.dat (.lam j L ds)] w.2) Q):EvP (lamM Fg j L ix np nN gp ge ws G) Q:=by
 obtain⟨o,e1,s,rfl,w,e2,ds,e3,e4,r,e5,q⟩:=h;refine zCU h1 h2 ⟨.rt r,?_,q⟩;rw[e1,qx];unfold retM lamE
 simp_all
theorem m41 (f:Fl w h)(dr:drW G x=some (.lst ((shB s).map .lst)))(hQ:∀ (γ:Mem) (m:Nat) (l:Lp),Rw (G++γ) m G.length l ((tabB s w h).map (List.map oz))->Q (.loc m,G++γ)):EvP (FM41 [.dat (.int (w:Int)),.dat (.int (h:Int)),x,.dat (oz true)] G) Q:=by
 refine zNG rfl (by decide) ⟨_,rfl,_,rfl,?_⟩;unfold me0;refine zCE (F:=FM40) rfl (zAE (zAF rfl (zAE (zAF rfl (zAE (zAF rfl (zAY ?_)))))));refine(show EvP (FM40 [.dat (.int (w:Int)),.dat (.int (h:Int)),x] G) _ from ?_);refine m40 f dr fun γ m l R1=>⟨[oz true],rfl,rfl,?_⟩
 refine zMf (f:=.lam 0 L0 [oz true]) (v:=oz) rfl f (λb=>zNZ (FL:=FL0) rfl λQ q1=>?_) (λ_=>rfl) R1 λO4 m2 l2 R2=>?_
 .refine zNE rfl rfl ?_;show EvP (evE G48 lb0 [some (oz b,false),some (oz true,false)]) _;unfold lb0;(walk_at "w");refine⟨_,x5 b,?_⟩;(walk_at "w");exact q1
 rw[qJ] at R2 ⊢;exact hQ _ _ _ (R2.below (by rw[qj];omega))
abbrev zKD (a:Nat):W:=.obj "Fill" ["shape","ink","strength"] [.loc a,.dat (inkD 1 2 3),.dat (oz true)]
abbrev rubW (a:Nat):W:=.obj "Rub" ["shape","strength"] [.loc a,.dat (oz true)]
theorem m37 (e:Rw G n b l rows)(hl:rows.length<=100)(hn:∀ ds∈rows,noLs ds=true)(hQ:∀ (γ:Mem) (m:Nat) (l':Lp),Rw (G++γ) m G.length l' rows->Q (.loc m,G++γ)):EvP (FM37 [.loc n] G) Q:=by
 refine zCU rfl (by decide) (zAC (zBt (zI4 (v:=id) (zDT (zAF rfl ⟨n,rfl,rfl⟩)) (by rw[List.map_id];exact e) rfl hl (fun γ m ds hd em=>?_) fun γ l' R'=>zDP (hQ γ _ l' (by simp_all)))));exact zAm rfl (zKN (zAZ (zAJ rfl (zBm em)) (zMq (zKz (hn ds hd) rfl))))
theorem zSi (e:Rw G n b l rows)(hl:rows.length<=100)(hn:∀ ds∈rows,noLs ds=true)(hQ:∀ (γ:Mem) (m:Nat) (l':Lp),Rw (G++γ) m G.length l' rows->Q (zKD m,G++γ)):EvP (zC4 [.loc n,.dat (inkD 1 2 3),.dat .non] G) Q:=by
 refine zJs rfl (by decide +kernel) ?_;show EvP (zEC [("shape",evM GL1 D7 (.call 2 "own_shape" (.cons (.var 1) .nil))),("ink",evM GL1 D7 (.var 2)),("strength",evM GL1 D7 (.pur (.call 38 "strength_or_one" (.cons (.var 3) .nil))))] ⟨[none,some (.loc n),some (.dat (inkD 1 2 3)),some (.dat .non)],G⟩) _;refine zBS (zCE (F:=FM37) rfl (zAE (zAF rfl (zAY ?_))));refine m37 e hl hn fun γ m l' R'=>?_
 refine zBS (zAF rfl (zBS (zAm rfl (zA5 rfl (zAk (zAZ (zAJ rfl zAM) (n_cl (zBW ?_))))))));exact⟨_,h38,n_cl (zAl rfl (zJt (hQ γ m l' R')))⟩
theorem mRub (e:Rw G n b l rows)(hl:rows.length<=100)(hn:∀ ds∈rows,noLs ds=true)(hQ:∀ (γ:Mem) (m:Nat) (l':Lp),Rw (G++γ) m G.length l' rows->Q (rubW m,G++γ)):EvP (zDS [.loc n,.dat .non] G) Q:=by
 refine zJs rfl rfl ?_;refine zBS (zCE (F:=FM37) rfl (zAE (zAF rfl (zAY ?_))));refine m37 e hl hn fun γ m l' R'=>?_
 refine zBS (zAm rfl (zA5 rfl (zAk (zAZ (zAJ rfl zAM) (n_cl (zBW ?_))))));exact⟨_,h38,n_cl (zAl rfl (zJt (hQ γ m l' R')))⟩
def zKC (F:MF)(ob:W)(w h:Nat)(G:Mem)(v:List (List D)):Prop:=∀ Q:MR->Prop,(∀ (γ:Mem) (m:Nat) (l:Lp),Rw (G++γ) m G.length l v->Q (.loc m,G++γ))->EvP (F [ob,.dat (.int (w:Int)),.dat (.int (h:Int))] G) Q
theorem zS2 (f:Fl w h)(dr:drW G (.loc a)=some (.lst ((shB s).map .lst))):zKC zCb (zKD a) w h G ((tabB s w h).map (List.map λq=>fmD (fmI q))):=λQ hQ=>by
 refine zNG rfl (by decide) ?_;refine zBI (zCE (F:=FM41) rfl (zAE (zAF rfl (zAE (zAF rfl (zAE (zLc (zAF rfl ⟨_,_,_,_,rfl,by decide,rfl,zAE (zLc (zAF rfl ⟨_,_,_,_,rfl,by decide,rfl,zAY ?_⟩))⟩))))))));refine(show EvP (FM41 [.dat (.int (w:Int)),.dat (.int (h:Int)),.loc a,.dat (oz true)] G) _ from ?_);refine m41 f dr fun γ m l R1=>⟨_,rfl,?_⟩
 (walk_at "s");refine zAF rfl ⟨[.obj "Fill" ["ink","strength"] [inkD 1 2 3,oz true]],rfl,rfl,?_⟩;refine zMf (f:=.lam 1 L1 [.obj "Fill" ["ink","strength"] [inkD 1 2 3,oz true]]) (v:=λq=>fmD (fmI q)) rfl f (λb=>zNZ (FL:=FL1) rfl λQ q1=>?_) (λb=>by cases b<;>rfl) R1 λO4 m2 l2 R2=>?_
 .refine zNE rfl rfl ?_;show EvP (evE GL0 lb1 [some (oz b,false),some (.obj "Fill" ["ink","strength"] [inkD 1 2 3,oz true],false)]) _;unfold lb1;refine zA5 rfl (zAk (zAZ rfl (n_cl (zAk (zRw (zAZ rfl ⟨_,_,_,_,rfl,by decide,rfl,n_cl (zBW ?_)⟩))))));exact⟨_,x17 b,n_cl q1⟩
 rw[qJ] at R2 ⊢;exact hQ _ _ _ (R2.below (by rw[qj];omega))
theorem fRub (f:Fl w h)(dr:drW G (.loc a)=some (.lst ((shB s).map .lst))):zKC zCu (rubW a) w h G ((tabB s w h).map (List.map λq=>fmD (fmR q))):=λQ hQ=>by
 refine zCU rfl (by decide) ?_;unfold zCk;refine zAC (zBt (zCE (F:=FM39) rfl (zAE (zCE (F:=FM41) rfl (zAE (zAF rfl (zAE (zAF rfl (zAE (zLc (zAF rfl ⟨_,_,_,_,rfl,by decide,rfl,zAE (zLc (zAF rfl ⟨_,_,_,_,rfl,by decide,rfl,zAY ?_⟩))⟩)))))))))));refine(show EvP (FM41 [.dat (.int (w:Int)),.dat (.int (h:Int)),.loc a,.dat (oz true)] G) _ from ?_);refine m41 f dr fun γ m l R1=>?_
 refine zAE (zAm rfl (zFc (d:=.fn 18 "rub_film") rfl (zAl rfl (zAY ?_))));refine(show EvP (FM39 [.loc m,.dat (.fn 18 "rub_film")] (G++γ)) _ from ?_);refine zMf (v:=λq=>fmD (fmR q)) rfl f (λb=>zR6 (F:=F18) rfl λQ q=>⟨_,x18 b,q⟩) (λb=>by cases b<;>rfl) R1 λO4 m2 l2 R2=>zDP ?_
 rw[qJ] at R2 ⊢;exact hQ _ _ _ (R2.below (by rw[qj];omega))
theorem h13 (Q:R->Prop)(h:Q (rsD [1,0,0,0,0],.cl)):EvP (F13 []) Q:=by
 refine zKF rfl (by simp) ?_;unfold b13;(walk_at "w");exact h
theorem h14 (Q:R->Prop)(h:Q (rsD [0,0,0,0],.cl)):EvP (F14 []) Q:=by
 refine zKF rfl (by simp) ?_;unfold b14;(walk_at "w");exact h
structure Kx (S:List Nat)(G μ2:Mem):Prop where
 le:G.length<=μ2.length
 kp:∀ y,y < G.length->y∉S->μ2[y]?=G[y]?
theorem Kq.kx {S:List Nat}{μ2:Mem}(k:Kq G μ2):Kx S G μ2:=⟨k.le,λy h _=>k.kp y h⟩
theorem Kx.trans {S:List Nat}{μ2:Mem}(a:Kx S G μ2)(b:Kx S μ2 O6):Kx S G O6:=⟨le_trans a.le b.le,λy h n=>(b.kp y (xQ h a.le) n).trans (a.kp y h n)⟩
theorem Kx.more {S:List Nat}{μ2:Mem}(a:Kx S G μ2)(h:∀ y∈S,y∈S'):Kx S' G μ2:=⟨a.le,λy l n=>a.kp y l λz=>n (h y z)⟩
theorem Kx.get {S:List Nat}{μ2:Mem}(a:Kx S G μ2)(n:y∉S)(e:G[y]?=some ws):μ2[y]?=some ws:=(a.kp y (zzg e).1 n).trans e
theorem Kx.set {S:List Nat}{μ2:Mem}(a:Kx S G μ2)(h:y∈S\/G.length<=y):Kx S G (μ2.set y ws):=⟨by rw[length_set];exact a.le,λx l n=>(getElem?_set_ne λz=>by
 subst z;rcases h with z | z
 .exact n z
 .omega).trans (a.kp x l n)⟩
theorem Kx.app {S:List Nat}{μ2 γ:Mem}(a:Kx S G μ2):Kx S G (μ2++γ):=a.trans zBR.kx
theorem Rw.keepX {S:List Nat}{μ2:Mem}(e:Rw G n b l rows)(k:Kx S G μ2)(h:∀ y∈S,y < b):Rw μ2 n b l rows :=
 ⟨e.ll.keep (k.kp n e.ll.lt.1 λz=>by have:=h n z;have:=e.top;omega) λp hp=>k.kp p.1 (e.ll.lt.2 p hp) λz=>by have:=h _ z;have:=e.lo p hp;omega,e.lo,e.top,e.snd⟩
def zA6 (b:Nat)(G:Mem)(t:Nat):Prop:=∃ (l:Lp) (T:List (List Fm)),Rw G t b l (T.map (List.map fmD))/\T.length<=4/\∀ r∈T,r.length<=4
theorem zA6.keep {S:List Nat}{μ2:Mem}(e:zA6 b G t)(k:Kx S G μ2)(h:∀ y∈S,y < b):zA6 b μ2 t:=let ⟨l,T,h1,h2⟩:=e;⟨l,T,h1.keepX k h,h2⟩
def prW (e:W):Prop:=∃ i j:Int,e=.tup [.dat (.int i),.dat (.int j)]
theorem m42 (e:zA6 b G t)(hQ:∀ ts:List W,ts.length<=16->(∀ e∈ts,prW e)->Q (.loc G.length,G++[ts])):EvP (FM42 [.loc t] G) Q:=by
 obtain⟨l,T,hR,hT,hr⟩:=e;refine zCU rfl (by decide) ?_;unfold mb42;show EvP (evSs' GL1 D6 _ ⟨[some (.loc t),none,none,none],G⟩) _;refine zAC (zBI (zEW (zAY ⟨zero_le _,zAS ?_⟩)));(walk_at "s");have dr:∀ γ:Mem,drW (G++γ) (.loc t)=some (.lst ((T.map (List.map fmD)).map .lst)):=fun γ=>(hR.keep zBR).dr
 have at1:∀ {i:Nat} {r:List Fm},T[i]?=some r->atI ((T.map (List.map fmD)).map D.lst) (i:Int)=some (.lst (r.map fmD)):=λ{i r} e=>zCZ (by rw[getElem?_map,getElem?_map,e];rfl)
 refine zAC (zDU (zC9 (zAm rfl (zCo (zAZ (zAJ rfl (dr _)) (zEX (zAl rfl ⟨_,rfl,by rw[List.length_map,List.length_map];omega,?_⟩)))))));rw[List.length_map,List.length_map,toNat_natCast];refine zEu (s:=⟨_,_⟩) ((rngL 0 T.length).map .dat) (λj s=>∃ (o2 o3:Option W) (ts:List W),s=⟨[some (.loc t),some (.loc G.length),o2,o3],G++[ts]⟩/\ts.length<=4*j/\∀ e∈ts,prW e) (λ_ _ _=>rfl) ?_ ?_ ⟨none,none,[],rfl,zero_le _,by simp⟩
 .rintro j y s ey ⟨o2,o3,ts,rfl,h1,h2⟩;obtain⟨rfl,hj⟩:=idx ey;have e1:T[j]?=some T[j]:=getElem?_eq_getElem hj;have hr1:=hr _ (mem_of_getElem? e1);generalize T[j]=r at e1 hr1;refine⟨_,rfl,?_⟩;dsimp only;(walk_at "s");refine zAC (zDU (zC9 (zAm rfl (zCo (zEI (zAZ (zAJ rfl (dr _)) (zAZ (zAJ rfl zAM) (zEE (at1 e1) (zEX (zAl rfl ⟨_,rfl,by rw[List.length_map];omega,?_⟩))))))))));rw[List.length_map,toNat_natCast];refine zEu (s:=⟨_,_⟩) ((rngL 0 r.length).map .dat) (λi s=>∃ (o3:Option W) (ts:List W),s=⟨[some (.loc t),some (.loc G.length),some (.dat (.int (j:Int))),o3],G++[ts]⟩/\ts.length<=4*j+i/\∀ e∈ts,prW e) (λ_ _ _=>rfl) ?_ ?_ ⟨o3,ts,rfl,h1,h2⟩
  .rintro i y s ey ⟨o3,ts,rfl,g1,g2⟩;obtain⟨rfl,hi⟩:=idx ey;have e2:r[i]?=some r[i]:=getElem?_eq_getElem hi;generalize r[i]=g at e2;refine⟨_,rfl,?_⟩;dsimp only;(walk_at "s");refine zAC (zCD (zFB rfl (zCc (zEI (zEI (zAZ (zAJ rfl (dr _)) (zAZ (zAJ rfl zAM) (zEE (at1 e1) (zAZ (zAJ rfl zAM) (zEE (d:=fmD g) (zCZ (by rw[getElem?_map,e2];rfl)) (zA5 rfl (zBW ?_))))))))))));refine h13 _ (n_cl ?_);refine c_ne (zG5 (zNV _) (zNV _) (by decide)) ⟨_,rfl,λ_=>?_,λ_=>zAx (zAS (zAx ⟨_,ts,rfl,by omega,g2⟩))⟩;refine zAC (zEg (zAF rfl (zSd (zAE (zAF rfl (zAE (zAF rfl (zAY ⟨by show 2<=10000;decide,_,_,rfl,zBD,by omega,zAS (zAx (zAS (zAx ?_)))⟩))))))));dsimp only;rw[zFV];refine⟨_,_,rfl,by rw[qj];show ts.length+1<=_;omega,λe he=>?_⟩;rcases mem_append.mp he with z | z
   .exact g2 e z
   .rw [mem_singleton.mp z];exact⟨_,_,rfl⟩
  .rintro s ⟨o3,ts,rfl,g1,g2⟩;rw[nrng] at g1;exact zAS (zAx ⟨_,_,ts,rfl,by omega,g2⟩)
 .rintro s ⟨o2,o3,ts,rfl,h1,h2⟩;rw[nrng] at h1;exact zAS (zAC (zBt (zAF rfl (zDP (hQ ts (by omega) h2)))))
abbrev pNs:List Str:=["width","height","watcher","order","layers","laid","count","marks","grounds"]
structure PP where
 x:Nat
 o:Nat
 a:Nat
 b:Nat
 m:Nat
 g:Nat
abbrev picW (P:PP):W:=.ob "Picture" pNs P.x
abbrev picC (w h:Nat) (P:PP) (c:Int):List W:=[.dat (.int (w:Int)),.dat (.int (h:Int)),.dat .non,.loc P.o,.di false P.a,.di false P.b,.dat (.int c),.di true P.m,.loc P.g]
theorem zJa {N0:Nat}(hx:G[P.x]?=some (picC w h P c))(hb:G[P.b]?=some lb)(hk:zAs [k] lb=some (.loc t))(ht:zA6 N0 G t)(hm:G[P.m]?=some lm)(hl:lm.length<=9900)(n1:P.x≠P.m)
  (hQ:∀ (G':Mem) (lm':List W),Kx [P.m] G G'->G'[P.m]?=some lm'->lm'.length<=lm.length+16->Q (.dat .non,G')):EvP (zAV [picW P,.dat (.int k)] G) Q:=by
 refine zCU rfl (by decide) ?_;unfold zBv;show EvP (evSs' GL1 D13 _ ⟨[some (picW P),some (.dat (.int k)),none],G⟩) _;refine zAC (zDU (zDT (zCE (F:=FM42) rfl (zAE (zSh (zBQ (zAF rfl ⟨_,_,_,_,_,rfl,by decide +kernel,hx,rfl,zAF rfl ⟨_,_,[k],lb,_,rfl,rfl,rfl,hb,hk,zAY ?_⟩⟩)))))));refine(show EvP (FM42 [.loc t] G) _ from ?_);refine m42 ht λts h1 h2=>⟨_,rfl,?_⟩
 have lmu:P.m < G.length:=(zzg hm).1;refine zEu (s:=⟨_,_⟩) ts (λj s=>∃ (o2:Option W) (G':Mem) (lm':List W),s=⟨[some (picW P),some (.dat (.int k)),o2],G'⟩/\Kx [P.m] G G'/\G'[G.length]?=some ts/\G'[P.m]?=some lm'/\lm'.length<=lm.length+j/\j<=ts.length) (λj s zy163=>by obtain⟨_,G',_,es,_,e,_⟩:=zy163;subst es;exact e) ?_ ?_ ⟨none,_,lm,rfl,zBR.kx,zBD,zAi hm,le_refl _,zero_le _⟩
 .rintro j y s ey ⟨o2,G',lm',rfl,k1,k2,k3,k4,k5⟩;have hj:j < ts.length:=(zzg ey).1;obtain⟨i1,i2,rfl⟩:=h2 y (mem_of_getElem? ey);refine⟨_,rfl,?_⟩;dsimp only;(walk_at "s");refine zAC (zGc (zAm rfl (zPA (zAl rfl (zBQ (zAF rfl ⟨_,_,_,_,_,rfl,by decide +kernel,k1.get (by simpa using n1) hx,rfl,zAF rfl ⟨_,_,[i1,i2],lm',rfl,rfl,k3,⟨rfl,by omega⟩,zAS (zAx ?_)⟩⟩))))));dsimp only;have le1:=k1.le;exact⟨_,_,_,rfl,k1.set (.inl (by simp)),by rw[getElem?_set_ne (by omega)];exact k2,getElem?_set_self (by omega),by have:=zD7 (k':=[i1,i2]) (d:=.tup [.dat (.int i1),.dat (.int i2)]) (u:=.dat (.bl true)) (ws:=lm');omega,by omega⟩
 .rintro s ⟨o2,G',lm',rfl,k1,k2,k3,k4,k5⟩;exact zAS (zAx (hQ G' lm' k1 k3 (by omega)))
theorem zND {N0:Nat}(hx:G[P.x]?=some (picC w h P c))(ha:G[P.a]?=some la)(hb:G[P.b]?=some lb)(hm:G[P.m]?=some lm)(wb:wfD lb)(l1:la.length<=9000)(l2:lb.length<=9000)(ht:zA6 N0 G t)(hl:lm.length<=9900)
  (d:P.o < P.a/\P.a < P.b/\P.b < P.m/\P.m < P.g/\P.g < P.x/\P.x < N0)
  (hQ:∀ (G':Mem) (lm':List W),Kx [P.a,P.b,P.m] G G'->G'[P.a]?=some (zB1 [k] (.dat (.int k)) L la)->G'[P.b]?=some (zB1 [k] (.dat (.int k)) (.loc t) lb)->G'[P.m]?=some lm'->lm'.length<=lm.length+16->Q (.dat .non,G')):EvP (zA4 [picW P,.dat (.int k),L,.loc t] G) Q:=by
 refine zCU rfl (by decide) ?_;unfold zB9;show EvP (evSs' GL1 D14 _ ⟨[some (picW P),some (.dat (.int k)),some L,some (.loc t)],G⟩) _;obtain⟨d1,d2,d3,d4,d5,d6⟩:=d;have xa:=(zzg ha).1;have xb:=(zzg hb).1;refine zAC (zGc (zAF rfl (zBQ (zAF rfl ⟨_,_,_,_,_,rfl,by decide +kernel,hx,rfl,zAF rfl ⟨_,_,[k],la,rfl,rfl,ha,⟨rfl,by omega⟩,zAS ?_⟩⟩))));dsimp only;have k1:Kx [P.a] G (G.set P.a (zB1 [k] (.dat (.int k)) L la)):=(zCF.kx).set (.inl (by simp));have a1:(G.set P.a (zB1 [k] (.dat (.int k)) L la))[P.a]?=some (zB1 [k] (.dat (.int k)) L la):=getElem?_set_self xa;have b1:=k1.get (y:=P.b) (by simp;omega) hb;have m1:=k1.get (y:=P.m) (by simp;omega) hm;have x1:=k1.get (y:=P.x) (by simp;omega) hx;have t1:=ht.keep k1 (by simp;omega);have e1:(G.set P.a (zB1 [k] (.dat (.int k)) L la)).length=G.length:=length_set;generalize G.set P.a (zB1 [k] (.dat (.int k)) L la)=O5 at k1 a1 b1 m1 x1 t1 e1;refine zAC (zGc (zAF rfl (zBQ (zAF rfl ⟨_,_,_,_,_,rfl,by decide +kernel,x1,rfl,zAF rfl ⟨_,_,[k],lb,rfl,rfl,b1,⟨rfl,by omega⟩,zAS ?_⟩⟩))));dsimp only;have k2:Kx [P.b] O5 (O5.set P.b (zB1 [k] (.dat (.int k)) (.loc t) lb)):=(zCF.kx).set (.inl (by simp));have b2:(O5.set P.b (zB1 [k] (.dat (.int k)) (.loc t) lb))[P.b]?=some (zB1 [k] (.dat (.int k)) (.loc t) lb):=getElem?_set_self (by omega);have a2:=k2.get (y:=P.a) (by simp;omega) a1;have m2:=k2.get (y:=P.m) (by simp;omega) m1;have x2:=k2.get (y:=P.x) (by simp;omega) x1;have t2:=t1.keep k2 (by simp;omega);generalize O5.set P.b (zB1 [k] (.dat (.int k)) (.loc t) lb)=μ2 at k2 a2 b2 m2 x2 t2;refine zAC (zBu (zCl (zAF rfl ⟨_,_,_,zAV,rfl,rfl,rfl,by decide +kernel,zAE (zAF rfl (zAY ?_))⟩)));refine(show EvP (zAV [picW P,.dat (.int k)] μ2) _ from ?_);refine zJa x2 b2 (by rw[zDQ wb rfl,if_pos rfl]) t2 m2 hl (by omega) λG' lm' k3 m3 l3=>zAS (zAx ?_)
 exact hQ G' lm' (((k1.more (by simp)).trans (k2.more (by simp))).trans (k3.more (by simp))) (k3.get (by simp;omega) a2) (k3.get (by simp;omega) b2) m3 l3
abbrev ordW (is:List Int):List W:=(is.map D.int).map W.dat
theorem zCx:∀ is:List Int,zFR (ordW is)=some is
 | []=>rfl
 | i::is=>by show (zFR (ordW is)).map _=_;rw[zCx is];rfl
abbrev PP.S (P:PP):List Nat:=[P.x,P.o,P.a,P.b,P.m]
structure zBH (N0 w h B:Nat)(G:Mem)(P:PP)(is:List Int)(c:Int):Prop where
 d:P.o < P.a/\P.a < P.b/\P.b < P.m/\P.m < P.g/\P.g < P.x/\P.x < N0
 hx:G[P.x]?=some (picC w h P c)
 ho:G[P.o]?=some (ordW is)
 ha:∃ la,G[P.a]?=some la/\wfD la/\la.length<=B/\∀ k,(zAs [k] la).isSome=true<->k∈is
 hb:∃ lb,G[P.b]?=some lb/\wfD lb/\lb.length<=B/\∀ k∈is,∃ t,zAs [k] lb=some (.loc t)/\zA6 N0 G t
 hm:∃ lm,G[P.m]?=some lm/\lm.length<=50*B
 nd:is.Nodup
 ln:is.length<=B
 lt:∀ k∈is,k < c
theorem zBH.lo {N0:Nat}(p:zBH N0 w h B G P is c):∀ y∈P.S,y < N0:=λy hy=>by
 have:=p.d;grind
theorem zBH.keep {N0:Nat}{S:List Nat}(p:zBH N0 w h B G P is c)(k:Kx S G G')(hS:∀ y∈S,y < N0)(dj:∀ y∈P.S,y∉S):zBH N0 w h B G' P is c:=by
 obtain⟨la,a1,a2⟩:=p.ha;obtain⟨lb,b1,b2,b3,b4⟩:=p.hb;obtain⟨lm,m1,m2⟩:=p.hm;exact⟨p.d,k.get (dj _ (by simp)) p.hx,k.get (dj _ (by simp)) p.ho,⟨la,k.get (dj _ (by simp)) a1,a2⟩,⟨lb,k.get (dj _ (by simp)) b1,b2,b3,λk' hk=>let ⟨t,t1,t2⟩:=b4 k' hk;⟨t,t1,t2.keep k hS⟩⟩,⟨lm,k.get (dj _ (by simp)) m1,m2⟩,p.nd,p.ln,p.lt⟩
theorem zBH.mono {N0:Nat}(p:zBH N0 w h B G P is c)(l:B<=B'):zBH N0 w h B' G P is c:=by
 obtain⟨la,a1,a2,a3,a4⟩:=p.ha;obtain⟨lb,b1,b2,b3,b4⟩:=p.hb;obtain⟨lm,m1,m2⟩:=p.hm;exact⟨p.d,p.hx,p.ho,⟨la,a1,a2,by omega,a4⟩,⟨lb,b1,b2,by omega,b4⟩,⟨lm,m1,by omega⟩,p.nd,by have:=p.ln;omega,p.lt⟩
theorem zGt {N0:Nat}(p:zBH N0 w h B G P is c)(hk:k∈is)(hQ:Q (.dat .non,G)):EvP (zAO [picW P,.dat (.int k)] G) Q:=by
 refine zCU rfl (by decide) ?_;unfold zA8;show EvP (evSs' GL1 D12 _ ⟨[some (picW P),some (.dat (.int k))],G⟩) _;obtain⟨la,a1,a2,a3,a4⟩:=p.ha;refine zAC (zCD (zSJ (zAF rfl (zBQ (zAF rfl ⟨_,_,_,_,_,rfl,by decide +kernel,p.hx,rfl,⟨_,_,[k],la,rfl,rfl,rfl,a1,?_,λ_=>zAx (zAS (zAx hQ))⟩⟩)))));dsimp only;rw[(a4 k).mpr hk];exact λz=>nomatch z
def zDH (N1:Nat)(G:Mem)(L:W):Prop:=∃ (a:Nat) (l:Lp) (s:Bool),(L=zKD a\/L=rubW a)/\a < N1/\(∀ p∈l,p.1 < N1)/\Rw G a 0 l (shB s)
theorem zDH.keep {N1:Nat}{S:List Nat}(e:zDH N1 G L)(k:Kx S G G')(h:∀ y∈S,N1<=y):zDH N1 G' L:=by
 obtain⟨a,l,s,h1,h2,h3,h4⟩:=e;exact⟨a,l,s,h1,h2,h3,⟨h4.ll.keep (k.kp a h4.ll.lt.1 λz=>by have:=h a z;omega) (λp hp=>k.kp p.1 (h4.ll.lt.2 p hp) λz=>by have:=h _ z;have:=h3 p hp;omega),h4.lo,h4.top,h4.snd⟩⟩
theorem zHq {N1:Nat}(e9:Y[9]?=some (("Fill.films":Str),zCb))(e10:Y[10]?=some (("Rub.films":Str),zCu))(hw:Fl w h)
  (hh:EvP (evM GL1 Y a s) λx=>x.1=L/\EvP (evMs GL1 Y es ⟨s.O,x.2⟩) λws=>ws.1=[.dat (.int (w:Int)),.dat (.int (h:Int))]/\zDH N1 ws.2 L/\∀ γ t,zA6 ws.2.length (ws.2++γ) t->Q (.loc t,ws.2++γ)):EvP (evM GL1 Y (.mth [("Fill",9),("Rub",10)] "films" a es) s) Q:=by
 obtain⟨⟨x,m⟩,e1,rfl,⟨ws,m2⟩,e2,rfl,⟨n,l,b,h1,h2,h3,h4⟩,hQ⟩:=hh;have fin:∀ (g:Bool->Fm) (γ:Mem) (t:Nat) (l':Lp),Rw (m2++γ) t m2.length l' _->zA6 m2.length (m2++γ) t:=λg γ t l' R=>⟨l',(tabB b w h).map (List.map g),by rw[map_map];simpa [Function.comp_def] using R,by rw[List.length_map,zHT];have:=hw.h2;omega,λr hr=>by
  obtain⟨qs,hq,rfl⟩:=mem_map.mp hr;rw[List.length_map,zHS hq];have:=hw.w2;omega⟩
 rcases h1 with rfl | rfl
 .refine zCl ⟨_,e1,"Fill",9,_,_,rfl,rfl,e9,by decide +kernel,_,e2,?_⟩;exact zS2 hw h4.dr _ fun γ t l' R=>hQ γ t (fin _ γ t l' R)
 .refine zCl ⟨_,e1,"Rub",10,_,_,rfl,rfl,e10,by decide +kernel,_,e2,?_⟩;exact fRub hw h4.dr _ fun γ t l' R=>hQ γ t (fin _ γ t l' R)
theorem zA6.below (e:zA6 b G t)(h:b'<=b):zA6 b' G t:=let ⟨l,T,h1,h2⟩:=e;⟨l,T,h1.below h,h2⟩
theorem zSB {N0 N1:Nat}(p:zBH N0 w h B G P is c)(hL:zDH N1 G L)(hN:N0<=G.length)(hB:B<=180)(hw:Fl w h)
  (hQ:∀ G':Mem,Kx P.S G G'->zBH N0 w h (B+1) G' P (is++[c]) (c+1)->Q (.dat (.int c),G')):EvP (zBc [picW P,L] G) Q:=by
 refine zCU rfl (by decide) ?_;unfold zCA;show EvP (evSs' GL1 D15 _ ⟨[some (picW P),some L,none],G⟩) _;obtain⟨d1,d2,d3,d4,d5,d6⟩:=p.d;have plo:=p.lo;refine zAC (zBI (zBQ (zAF rfl ⟨_,_,_,_,_,rfl,by decide +kernel,p.hx,rfl,zAS ?_⟩)));(walk_at "s");refine zAC (zBu (zCl (zAF rfl ⟨_,_,_,zA4,rfl,rfl,rfl,by decide +kernel,?_⟩)));refine zAE (zAF rfl (zAE (zAF rfl (zAE ?_))));refine zHq (N1:=N1) (w:=w) (h:=h) rfl rfl hw (zAF rfl ⟨rfl,?_⟩);refine zAE (zBQ (zAF rfl ⟨_,_,_,_,_,rfl,by decide +kernel,p.hx,rfl,?_⟩));refine zAE (zBQ (zAF rfl ⟨_,_,_,_,_,rfl,by decide +kernel,p.hx,rfl,?_⟩));refine zAY ⟨rfl,hL,fun γ t T=>zAY ?_⟩;refine(show EvP (zA4 [picW P,.dat (.int c),L,.loc t] (G++γ)) _ from ?_);have p1:zBH N0 w h B (G++γ) P is c:=p.keep (S:=[]) zBR.kx (by simp) (by simp);obtain⟨la,a1,a2,a3,a4⟩:=p1.ha;obtain⟨lb,b1,b2,b3,b4⟩:=p1.hb;obtain⟨lm,m1,m2⟩:=p1.hm;refine zND p1.hx a1 b1 m1 b2 (by omega) (by omega) (T.below hN) (by omega) p.d fun μ2 lm2 k2 a5 b5 m5 l5=>zAS ?_
 dsimp only;have s3:∀ y∈[P.a,P.b,P.m],y < N0:=λy hy=>plo y (by simp only[mem_cons,not_mem_nil,or_false] at hy;simp only[PP.S,mem_cons,not_mem_nil,or_false];omega)
 have x2:=k2.get (y:=P.x) (by simp;omega) p1.hx;have o2:=k2.get (y:=P.o) (by simp;omega) p1.ho;have T2:=(T.below hN).keep k2 s3;have kk:Kx P.S G μ2:=((zBR.kx (S:=P.S))).trans (k2.more (by simp));have tb:∀ k∈is,∃ t,zAs [k] lb=some (.loc t)/\zA6 N0 μ2 t:=λk hk=>let ⟨t,t1,t2⟩:=b4 k hk;⟨t,t1,t2.keep k2 s3⟩
 clear b4;generalize B8:G++γ=O5 at *;refine zAC (zEg (zBQ (zAF rfl ⟨_,_,_,_,_,rfl,by decide +kernel,x2,rfl,zAF rfl ⟨_,_,rfl,o2,by rw[List.length_map,List.length_map];have:=p.ln;omega,zAS ?_⟩⟩)));dsimp only;have e3:ordW is++[W.dat (D.int c)]=ordW (is++[c]):=by simp[ordW]
 rw[e3];have lo2:P.o < μ2.length:=(zzg o2).1;have k3:Kx [P.o] μ2 (μ2.set P.o (ordW (is++[c]))):=(zCF.kx).set (.inl (by simp));have o3:(μ2.set P.o (ordW (is++[c])))[P.o]?=some (ordW (is++[c])):=getElem?_set_self lo2;have x3:=k3.get (y:=P.x) (by simp;omega) x2;have a6:=k3.get (y:=P.a) (by simp;omega) a5;have b6:=k3.get (y:=P.b) (by simp;omega) b5;have m6:=k3.get (y:=P.m) (by simp;omega) m5;have s1:∀ y∈[P.o],y < N0:=λy hy=>plo y (by rw[mem_singleton] at hy;simp[hy])
 have T3:=T2.keep k3 s1;have tb3:∀ k∈is,∃ t,zAs [k] lb=some (.loc t)/\zA6 N0 (μ2.set P.o (ordW (is++[c]))) t:=λk hk=>let ⟨t,t1,t2⟩:=tb k hk;⟨t,t1,t2.keep k3 s1⟩
 have kk3:=kk.trans (k3.more (S':=P.S) (by simp));generalize μ2.set P.o (ordW (is++[c]))=O6 at k3 o3 x3 a6 b6 m6 T3 tb3 kk3;refine zAC (zNj (zAF rfl ⟨_,_,_,_,_,rfl,⟨by decide +kernel,rfl,by decide⟩,x3,rfl,zAm rfl (zAb (zAl rfl ⟨_,_,rfl,x3,zAS ?_⟩))⟩));have lx3:P.x < O6.length:=(zzg x3).1;show EvP (evSs' GL1 D15 _ ⟨[some (picW P),some L,some (.dat (.int c))],O6.set P.x (picC w h P (c+1))⟩) _;have k4:Kx [P.x] O6 (O6.set P.x (picC w h P (c+1))):=(zCF.kx).set (.inl (by simp));have s4:∀ y∈[P.x],y < N0:=λy hy=>plo y (by rw[mem_singleton] at hy;simp[hy])
 refine zAC (zBt (zAF rfl (zDP (hQ _ (kk3.trans (k4.more (by simp))) ⟨p.d,getElem?_set_self lx3,k4.get (by simp;omega) o3,⟨_,k4.get (by simp;omega) a6,zHO a2 rfl,le_trans zD7 (by omega),λk=>?_⟩,⟨_,k4.get (by simp;omega) b6,zHO b2 rfl,le_trans zD7 (by omega),λk hk=>?_⟩,⟨_,k4.get (by simp;omega) m6,by omega⟩,?_,by rw[qj];have:=p.ln;show _+1<=_;omega,λk hk=>?_⟩))))
 .rw [zDQ a2 rfl];by_cases z:k=c
  .subst z;simp
  .rw [if_neg (λy=>z (by simpa using y)),a4 k];simp[z]
 .rw [zDQ b2 rfl];by_cases z:k=c
  .subst z;rw[if_pos rfl];exact⟨t,rfl,T3.keep k4 s4⟩
  .rw [if_neg (λy=>z (by simpa using y))];obtain⟨t',q1,q2⟩:=tb3 k (by simpa [z] using hk);exact⟨t',q1,q2.keep k4 s4⟩
 .rw [List.nodup_append];exact⟨p.nd,by simp,λy hy z hz=>by rw[mem_singleton.mp hz];have:=p.lt y hy;omega⟩
 .rcases mem_append.mp hk with z | z
  .have:=p.lt k z;omega
  .rw [mem_singleton.mp z];omega
theorem zDq :∀ {is:List Int},k∈is->∃ j,posI k is=some j/\is.eraseIdx j=is.erase k/\(is.eraseIdx j).take j++k::(is.eraseIdx j).drop j=is
 | [],h=>absurd h (by simp)
 | x::r,h=>by
  unfold posI;by_cases q:x=k
  .subst q;exact⟨0,if_pos rfl,by simp,by simp⟩
  .obtain ⟨j,e1,e2,e3⟩:=zDq (show k∈r by simpa [Ne.symm q] using h);refine⟨j+1,by rw[if_neg q,e1];rfl,?_,?_⟩
   .rw [List.eraseIdx_cons_succ,e2,List.erase_cons_tail (by simpa using q)]
   .rw [List.eraseIdx_cons_succ,List.take_succ_cons,List.drop_succ_cons,List.cons_append,e3]
theorem zCf:∀ (is:List Int) (j:Nat),(ordW is).eraseIdx j=ordW (is.eraseIdx j)
 | [],_=>rfl
 | _::_,0=>rfl
 | x::r,j+1=>by
  show W.dat (.int x)::(ordW r).eraseIdx j=_;rw[zCf r j]
  rfl
section
variable {N0 N1 w h B:Nat}{G:Mem}{P:PP}{is:List Int}{c k:Int}{L:W}{Q:MR->Prop}
theorem zFL (p:zBH N0 w h B G P is c)(hk:k∈is)(hB:B<=180)(hQ:∀ G':Mem,Kx P.S G G'->zBH N0 w h (B+1) G' P is c->Q (.dat .non,G')):EvP (zAV [picW P,.dat (.int k)] G) Q:=by
 obtain⟨d1,d2,d3,d4,d5,d6⟩:=p.d;obtain⟨la,a1,a2,a3,a4⟩:=p.ha;obtain⟨lb,b1,b2,b3,b4⟩:=p.hb;obtain⟨lm,m1,m2⟩:=p.hm;obtain⟨t,t1,t2⟩:=b4 k hk;have s1:∀ y∈[P.m],y < N0:=by simp;omega
 refine zJa p.hx b1 t1 t2 m1 (by omega) (by omega) λG' lm' k1 g1 g2=>hQ G' (k1.more (by simp)) ⟨p.d,k1.get (by simp;omega) p.hx,k1.get (by simp;omega) p.ho,⟨la,k1.get (by simp;omega) a1,a2,by omega,a4⟩,⟨lb,k1.get (by simp;omega) b1,b2,by omega,λk' h'=>let ⟨t',t3,t4⟩:=b4 k' h';⟨t',t3,t4.keep k1 s1⟩⟩,⟨lm',g1,by omega⟩,p.nd,by have:=p.ln;omega,p.lt⟩
theorem zPS (p:zBH N0 w h B G P is c)(hk:k∈is)(hB:B<=180)(hQ:∀ G':Mem,Kx P.S G G'->zBH N0 w h (B+1) G' P (is.erase k) c->Q (.dat .non,G')):EvP (zBV [picW P,.dat (.int k)] G) Q:=by
 refine zCU rfl (by decide) ?_;unfold zBx;show EvP (evSs' GL1 D16 _ ⟨[some (picW P),some (.dat (.int k))],G⟩) _;refine zAC (zBu (zCl (zAF rfl ⟨_,_,_,zAO,rfl,rfl,rfl,by decide +kernel,zAE (zAF rfl (zAY ?_))⟩)));refine(show EvP (zAO [picW P,.dat (.int k)] G) _ from ?_);refine zGt p hk (zAS ?_);refine zAC (zBu (zCl (zAF rfl ⟨_,_,_,zAV,rfl,rfl,rfl,by decide +kernel,zAE (zAF rfl (zAY ?_))⟩)));refine(show EvP (zAV [picW P,.dat (.int k)] G) _ from ?_);refine zFL p hk hB λO5 k1 p1=>zAS ?_
 dsimp only;obtain⟨d1,d2,d3,d4,d5,d6⟩:=p.d;have plo:=p.lo;obtain⟨la,a1,a2,a3,a4⟩:=p1.ha;obtain⟨lb,b1,b2,b3,b4⟩:=p1.hb;obtain⟨lm,m1,m2⟩:=p1.hm;have hx1:=p1.hx;have ho1:=p1.ho;have ln1:=p1.ln;obtain⟨j,j1,j2,_⟩:=zDq hk;refine zAC (zHU (zBQ (zAF rfl ⟨_,_,_,_,_,rfl,by decide +kernel,hx1,rfl,_,rfl,zAF rfl ⟨_,_,_,j,rfl,ho1,zCx is,j1,zAS ?_⟩⟩)));dsimp only;rw[zCf,j2];have k2:Kx [P.o] O5 (O5.set P.o (ordW (is.erase k))):=(zCF.kx).set (.inl (by simp));have o2:(O5.set P.o (ordW (is.erase k)))[P.o]?=some (ordW (is.erase k)):=getElem?_set_self (zzg ho1).1;have x2:=k2.get (y:=P.x) (by simp;omega) hx1;have a5:=k2.get (y:=P.a) (by simp;omega) a1;have b5:=k2.get (y:=P.b) (by simp;omega) b1;have m5:=k2.get (y:=P.m) (by simp;omega) m1;generalize O5.set P.o (ordW (is.erase k))=μ2 at k2 o2 x2 a5 b5 m5;obtain⟨u,hu⟩:∃ u,zAs [k] la=some u:=Option.isSome_iff_exists.mp ((a4 k).mpr hk);obtain⟨t,t1,t2⟩:=b4 k hk;refine zAC (zBu (zNC (zBQ (zAF rfl ⟨_,_,_,_,_,rfl,by decide +kernel,x2,rfl,_,rfl,zAF rfl ⟨[k],la,u,rfl,rfl,a5,hu,zAS ?_⟩⟩))));dsimp only;have k3:Kx [P.a] μ2 (μ2.set P.a (zBy [k] la)):=(zCF.kx).set (.inl (by simp));have a6:(μ2.set P.a (zBy [k] la))[P.a]?=some (zBy [k] la):=getElem?_set_self (zzg a5).1;have x3:=k3.get (y:=P.x) (by simp;omega) x2;have o3:=k3.get (y:=P.o) (by simp;omega) o2;have b6:=k3.get (y:=P.b) (by simp;omega) b5;have m6:=k3.get (y:=P.m) (by simp;omega) m5;generalize μ2.set P.a (zBy [k] la)=O6 at k3 a6 x3 o3 b6 m6;refine zAC (zBu (zNC (zBQ (zAF rfl ⟨_,_,_,_,_,rfl,by decide +kernel,x3,rfl,_,rfl,zAF rfl ⟨[k],lb,_,rfl,rfl,b6,t1,zAS (zAx ?_)⟩⟩))));dsimp only;have k4:Kx [P.b] O6 (O6.set P.b (zBy [k] lb)):=(zCF.kx).set (.inl (by simp));have kk:Kx P.S O5 (O6.set P.b (zBy [k] lb)):=((k2.more (by simp)).trans (k3.more (by simp))).trans (k4.more (by simp));have me:∀ y,y∈is.erase k<->y≠k/\y∈is:=λy=>p.nd.mem_erase_iff
 refine hQ _ (k1.trans kk) ⟨p.d,k4.get (by simp;omega) x3,k4.get (by simp;omega) o3,⟨_,k4.get (by simp;omega) a6,zIn a2,le_trans zHg (by omega),λy=>?_⟩,⟨_,getElem?_set_self (zzg b6).1,zIn b2,le_trans zHg (by omega),λy hy=>?_⟩,⟨lm,k4.get (by simp;omega) m6,by omega⟩,p.nd.erase k,by have:=List.length_erase_le (a:=k) (l:=is);omega,λy hy=>p.lt y ((me y).mp hy).2⟩
 .rw [zEK a2,me];by_cases z:y=k
  .subst z;simp
  .rw [if_neg (λq=>z (by simpa using q)),a4 y];simp[z]
 .obtain ⟨z,hy2⟩:=(me y).mp hy;obtain⟨t',q1,q2⟩:=b4 y hy2;rw[zEK b2,if_neg (λq=>z (by simpa using q))];exact⟨t',q1,q2.keep kk plo⟩
theorem zKs (p:zBH N0 w h B G P is c)(hk:k∈is)(hL:zDH N1 G L)(hN:N0<=G.length)(hB:B<=170)(hw:Fl w h)(hQ:∀ G':Mem,Kx P.S G G'->zBH N0 w h (B+2) G' P is c->Q (.dat .non,G')):EvP (zBG [picW P,.dat (.int k),L] G) Q:=by
 refine zCU rfl (by decide) ?_;unfold zBa;show EvP (evSs' GL1 D17 _ ⟨[some (picW P),some (.dat (.int k)),some L,none],G⟩) _;refine zAC (zBu (zCl (zAF rfl ⟨_,_,_,zAO,rfl,rfl,rfl,by decide +kernel,zAE (zAF rfl (zAY ?_))⟩)));refine(show EvP (zAO [picW P,.dat (.int k)] G) _ from ?_);refine zGt p hk (zAS ?_);refine zAC (zBI ?_);refine zHq (N1:=N1) (w:=w) (h:=h) rfl rfl hw (zAF rfl ⟨rfl,?_⟩);refine zAE (zBQ (zAF rfl ⟨_,_,_,_,_,rfl,by decide +kernel,p.hx,rfl,?_⟩));refine zAE (zBQ (zAF rfl ⟨_,_,_,_,_,rfl,by decide +kernel,p.hx,rfl,?_⟩));refine zAY ⟨rfl,hL,fun γ t T=>zAS ?_⟩;(walk_at "s");have p1:zBH N0 w h B (G++γ) P is c:=p.keep (S:=[]) zBR.kx (by simp) (by simp);refine zAC (zBu (zCl (zAF rfl ⟨_,_,_,zAV,rfl,rfl,rfl,by decide +kernel,zAE (zAF rfl (zAY ?_))⟩)));refine(show EvP (zAV [picW P,.dat (.int k)] (G++γ)) _ from ?_);refine zFL p1 hk (by omega) fun μ2 k2 p2=>zAS ?_
 dsimp only;have plo:=p.lo;obtain⟨d1,d2,d3,d4,d5,d6⟩:=p.d;obtain⟨la,a1,a2,a3,a4⟩:=p2.ha;obtain⟨lb,b1,b2,b3,b4⟩:=p2.hb;obtain⟨lm,m1,m2⟩:=p2.hm;have T2:=(T.below hN).keep k2 plo;refine zAC (zBu (zCl (zAF rfl ⟨_,_,_,zA4,rfl,rfl,rfl,by decide +kernel,zAE (zAF rfl (zAE (zAF rfl (zAE (zAF rfl (zAY ?_))))))⟩)));refine(show EvP (zA4 [picW P,.dat (.int k),L,.loc t] μ2) _ from ?_);refine zND p2.hx a1 b1 m1 b2 (by omega) (by omega) T2 (by omega) p.d λO6 lm3 k3 a5 b5 m5 l5=>zAS (zAx ?_)
 have k3':Kx P.S μ2 O6:=k3.more (by simp);refine hQ O6 ((zBR.kx.trans k2).trans k3') ⟨p.d,k3.get (by simp;omega) p2.hx,k3.get (by simp;omega) p2.ho,⟨_,a5,zHO a2 rfl,le_trans zD7 (by omega),λy=>?_⟩,⟨_,b5,zHO b2 rfl,le_trans zD7 (by omega),λy hy=>?_⟩,⟨lm3,m5,by omega⟩,p.nd,by have:=p2.ln;omega,p.lt⟩
 .rw [zDQ a2 rfl];by_cases z:y=k
  .subst z;simp[hk]
  .rw [if_neg (λq=>z (by simpa using q)),a4 y]
 .rw [zDQ b2 rfl];by_cases z:y=k
  .subst z;rw[if_pos rfl];exact⟨t,rfl,T2.keep k3' plo⟩
  .rw [if_neg (λq=>z (by simpa using q))];obtain⟨t',q1,q2⟩:=b4 y hy;exact⟨t',q1,q2.keep k3' plo⟩
theorem zEl (p:zBH N0 w h B G P is c)(hQ:Q (.loc G.length,G++[ordW is])):EvP (zAn [picW P] G) Q:=zCU rfl (by simp) (zAC (zBt (zSf (zBQ (zAF rfl ⟨_,_,_,_,_,rfl,by decide +kernel,p.hx,rfl,_,_,rfl,p.ho,zDP hQ⟩)))))
end
theorem zPr (h:EvP (evT J Y a s) λr=>r.1=false/\EvP (evT J Y b ⟨s.O,r.2⟩) Q):EvP (evT J Y (.orl (.cons a (.cons b .nil))) s) Q:=by
 obtain⟨_,e1,e2,z,e3,q⟩:=h;refine⟨z,?_,q⟩;show orB _ (evT J Y b) s=_;unfold orB;grind
theorem zGZ (h:EvP (evM J Y (.call n f es) s) λr=>∃ c,r.1=.dat (.bl c)/\Q (!c,r.2)):EvP (evT J Y (.not (.call n f es)) s) Q:=by
 obtain⟨⟨r,m⟩,e1,c,e2,q⟩:=h;refine⟨_,?_,q⟩;show notB (asBM _) s=_;unfold notB asBM
 simp_all
noncomputable def zEY (q:Nat)(k:Int)(l:List Int):List Int:=l.take q++k::l.drop q
theorem zHm (h:k∈is):(zEY q k (is.erase k)).Perm is:=by
 have h1:(zEY q k (is.erase k)).Perm (k::is.erase k):=by
  refine List.perm_middle.trans ?_;simp
 exact h1.trans (List.perm_cons_erase h).symm
theorem zJF :(ordW l).take q++W.dat (.int k)::(ordW l).drop q=ordW (zEY q k l):=by
 unfold zEY ordW;simp[List.map_take,List.map_drop]
theorem crng {n:Nat}(P:Nat->Mem->List W->Prop)(hs:EvP (evM J Y a ⟨O,G⟩) λr=>r=(.dat (.int (n:Int)),G))(hN:(mask none ms O).length=N)(hl:n<=100)(h0:P 0 G [])(hd:∀ j G' d,P j G' d->d.length=j)
  (step:∀ j G' d,j < n->P j G' d->EvP (evM J Y el ⟨mask none ms O++[some (.dat (.int (j:Int)))],G'⟩) λr=>P (j+1) r.2 (d++[r.1])) (hQ:∀ G' d,P n G' d->Q (.loc G'.length,G'++[d])):EvP (evM J Y (.comp N ms nm (.rng a) el) ⟨O,G⟩) Q:=by
 obtain⟨r,er,rfl⟩:=hs;refine zEo (zC9 ⟨_,er,_,rfl,by omega,?_⟩);dsimp only;rw[toNat_natCast];obtain⟨y,s',M,ey,⟨o,p1⟩,p4⟩:=zEy (t:=tgM N) (e:=evM J Y el) (src:=.items ((rngL 0 n).map .dat)) (s:=⟨mask none ms O++[none],G⟩) ((rngL 0 n).map .dat) (λj s d=>∃ o:Option W,s.O=mask none ms O++[o]/\P j s.G d) (λ_ _ _ _=>rfl) (λj w s d ew zz142=>by
   obtain⟨o,q1,q2⟩:=zz142;obtain⟨rfl,hj⟩:=idx ew;obtain⟨r,e1,q3⟩:=step j s.G d hj q2;refine⟨by rw[hd j _ _ q2];omega,⟨mask none ms O++[some (.dat (.int (j:Int)))],s.G⟩,r,?_,e1,_,rfl,q3⟩;unfold tgM;rw[q1,List.set_append_right _ _ (by omega),hN,sub_self]
   rfl) ⟨none,rfl,h0⟩
 rw[nrng] at p1;obtain⟨_,p2⟩:=p1;refine⟨y,M,ey,by rw[hd n _ _ p2];omega,?_⟩;rw[<- p4];exact hQ _ _ p2
section
variable {N0 N1 w h B:Nat}{G:Mem}{P:PP}{is:List Int}{c k:Int}{L:W}{Q:MR->Prop}
theorem zOP (p:zBH N0 w h B G P is c)(hk:k∈is)(hq:q < is.length)(hB:B<=180)(hQ:∀ G':Mem,Kx P.S G G'->zBH N0 w h (B+1) G' P (zEY q k (is.erase k)) c->Q (.dat .non,G')):EvP (zBU [picW P,.dat (.int k),.dat (.int (q:Int))] G) Q:=by
 refine zCU rfl (by decide) ?_;unfold zBw;show EvP (evSs' GL1 D18 _ ⟨[some (picW P),some (.dat (.int k)),some (.dat (.int (q:Int)))],G⟩) _;refine zAC (zBu (zCl (zAF rfl ⟨_,_,_,zAO,rfl,rfl,rfl,by decide +kernel,zAE (zAF rfl (zAY ?_))⟩)));refine(show EvP (zAO [picW P,.dat (.int k)] G) _ from ?_);refine zGt p hk (zAS ?_);obtain⟨j,j1,j2,j3⟩:=zDq hk;have hx:=p.hx;have ho:=p.ho;obtain⟨d1,d2,d3,d4,d5,d6⟩:=p.d;refine zAC (zCD (zPr (zFB rfl (zCc (zAZ (zAJ rfl zAM) (zAb (c_lt ⟨_,rfl,?_,?_⟩)))))))
 .show decide ((q:Int) < 0)=false;exact decide_eq_false (by omega)
 refine zPs (zIV (zAF rfl (zSe (zBQ (zAF rfl ⟨_,_,_,_,_,rfl,by decide +kernel,hx,rfl,_,_,rfl,ho,_,_,zAM,zAM,c_ge (zAl rfl ⟨_,rfl,λz=>?_,λ_=>zAx (zAS ?_)⟩)⟩)))))
 .exfalso
  have:=of_decide_eq_true (show decide _=true from z);rw[List.length_map,List.length_map] at this;omega
 refine zAC (zCD (zPs (zIV (zAF rfl (zSg (zBQ (zAF rfl ⟨_,_,_,_,_,rfl,by decide +kernel,hx,rfl,_,rfl,zAF rfl ⟨_,_,_,j,rfl,ho,zCx is,j1,_,_,zAM,zAM,zHG (zAl rfl ⟨_,rfl,λz=>?_,λz=>zAx (zAS ?_)⟩)⟩⟩)))))))
 .have e:=of_decide_eq_true (show decide _=true from z);have e':q=j:=by exact_mod_cast e
  subst e';refine zAC ⟨_,rfl,zDP (hQ G zCF.kx ?_)⟩;unfold zEY;rw[<- j2,j3];exact p.mono (Nat.le_succ _)
 have pm:=zHm (q:=q) hk;refine zAC (zHU (zBQ (zAF rfl ⟨_,_,_,_,_,rfl,by decide +kernel,hx,rfl,_,rfl,zAF rfl ⟨_,_,_,j,rfl,ho,zCx is,j1,zAS ?_⟩⟩)));dsimp only;rw[zCf,j2];have lo1:P.o < G.length:=(zzg ho).1;have k2:Kx [P.o] G (G.set P.o (ordW (is.erase k))):=(zCF.kx).set (.inl (by simp));have o2:(G.set P.o (ordW (is.erase k)))[P.o]?=some (ordW (is.erase k)):=getElem?_set_self lo1;have x2:=k2.get (y:=P.x) (by simp;omega) hx;have l2:(G.set P.o (ordW (is.erase k))).length=G.length:=length_set;generalize G.set P.o (ordW (is.erase k))=μ2 at k2 o2 x2 l2;have le:(is.erase k).length=is.length - 1:=List.length_erase_of_mem hk;have lnB:=p.ln;refine zAC (zMr (zBQ (zAF rfl ⟨_,_,_,_,_,rfl,by decide +kernel,x2,rfl,_,rfl,zAF rfl (zAF rfl ⟨_,_,rfl,o2,⟨by omega,by rw[List.length_map,List.length_map];omega,by rw[List.length_map,List.length_map];omega⟩,zAS ?_⟩)⟩)));dsimp only;rw[toNat_natCast,zJF];have k3:Kx [P.o] G (μ2.set P.o (ordW (zEY q k (is.erase k)))):=k2.set (.inl (by simp));have s1:∀ y∈[P.o],y < N0:=by simp;omega
 obtain⟨la,a1,a2,a3,a4⟩:=p.ha;obtain⟨lb,b1,b2,b3,b4⟩:=p.hb;obtain⟨lm,m1,m2⟩:=p.hm;have p3:zBH N0 w h B (μ2.set P.o (ordW (zEY q k (is.erase k)))) P (zEY q k (is.erase k)) c:=⟨p.d,k3.get (by simp;omega) hx,getElem?_set_self (by omega),⟨la,k3.get (by simp;omega) a1,a2,a3,λy=>(a4 y).trans pm.mem_iff.symm⟩,⟨lb,k3.get (by simp;omega) b1,b2,b3,λy hy=>let ⟨t,t1,t2⟩:=b4 y (pm.mem_iff.mp hy);⟨t,t1,t2.keep k3 s1⟩⟩,⟨lm,k3.get (by simp;omega) m1,m2⟩,pm.nodup_iff.mpr p.nd,by rw[pm.length_eq];exact p.ln,λy hy=>p.lt y (pm.mem_iff.mp hy)⟩;refine zAC (zBu (zCl (zAF rfl ⟨_,_,_,zAV,rfl,rfl,rfl,by decide +kernel,zAE (zAF rfl (zAY ?_))⟩)));refine(show EvP (zAV [picW P,.dat (.int k)] _) _ from ?_);refine zFL p3 (pm.mem_iff.mpr hk) hB λZ8 k4 p4=>zAS (zAx (hQ Z8 ((k3.more (by simp)).trans k4) p4))
theorem zNB (hw:w<=100)(hh:h<=100)(hQ:∀ (γ:Mem) (P:PP),G.length=P.o->P.x+1=(G++γ).length->zBH (P.x+1) w h 0 (G++γ) P [] 0->Q (picW P,G++γ)):EvP (zBF [.dat (.int (w:Int)),.dat (.int (h:Int)),.dat .non] G) Q:=by
 refine zLm rfl (by decide +kernel) ?_;show EvP (zEC [("width",evM GL1 D11 (.var 1)),("height",evM GL1 D11 (.var 2)),("watcher",evM GL1 D11 (.var 3)),("order",evM GL1 D11 (.lst .nil)),("layers",evM GL1 D11 (.dnew false)),("laid",evM GL1 D11 (.dnew false)),("count",evM GL1 D11 (.pur (.int 0))),("marks",evM GL1 D11 (.dnew true)),("grounds",evM GL1 D11 (.comp 4 [] "row" (.rng (.var 2)) (.comp 5 [] "column" (.rng (.var 1)) (.pur (.call 14 "clear_ground" .nil)))))] ⟨[none,some (.dat (.int (w:Int))),some (.dat (.int (h:Int))),some (.dat .non)],G⟩) _;refine zBS (zAF rfl ?_);refine zBS (zAF rfl ?_);refine zBS (zAF rfl ?_);refine zBS (zEW (zAY ⟨zero_le _,?_⟩));refine zBS (zJb ?_);refine zBS (zJb ?_);refine zBS (zAm rfl (zAb (zAl rfl ?_)));refine zBS (zJb ?_);refine zBS ?_;dsimp only;simp only[qj,length_singleton];have l4:(G++[[]]++[[]]++[[]]++[[]]).length=G.length+4:=by simp
 refine crng (n:=h) (λj G' d=>∃ γ,G'=G++[[]]++[[]]++[[]]++[[]]++γ/\d.length=j) (zAF rfl rfl) rfl hh ⟨[],by rw[append_nil],rfl⟩ (λj G' d zy164=>by obtain⟨_,_,e⟩:=zy164;exact e) (λj G' d hj ⟨γ,e1,e2⟩=>?_) λG' d ⟨γ,e1,e2⟩=>?_
 .refine crng (n:=w) (λi G'' d=>G''=G'/\d.length=i) (zAF rfl rfl) rfl hw ⟨rfl,rfl⟩ (λ_ _ _ zy165=>by obtain⟨_,e⟩:=zy165;exact e) (λi G'' d' hi ⟨e3,e4⟩=>?_) λG'' d' ⟨e3,e4⟩=>?_
  .refine zAm rfl (zA5 rfl (zBW (h14 _ (n_cl (zAl rfl ?_)))));exact⟨e3,by rw[qj,e4];rfl⟩
  .subst e3 e1;exact⟨γ++[d'],by simp only[qJ],by rw[qj,e2];rfl⟩
 .refine zJt ?_;subst e1;dsimp only;have g0:∀ (i:Nat),i < 4->∀ U5:Mem,(G++[[]]++[[]]++[[]]++[[]]++U5)[G.length+i]?=some []:=λi hi U5=>by
   rw[getElem?_append_left (by rw[l4];omega)];have:i=0\/i=1\/i=2\/i=3:=by omega
   rcases this with rfl | rfl | rfl | rfl<;>simp[List.getElem?_append]
  have q:=hQ ([[]]++[[]]++[[]]++[[]]++(γ++[d]++[picC w h ⟨(G++[[]]++[[]]++[[]]++[[]]++γ++[d]).length,G.length,G.length+1,G.length+1+1,G.length+1+1+1,(G++[[]]++[[]]++[[]]++[[]]++γ).length⟩ 0])) ⟨(G++[[]]++[[]]++[[]]++[[]]++γ++[d]).length,G.length,G.length+1,G.length+1+1,G.length+1+1+1,(G++[[]]++[[]]++[[]]++[[]]++γ).length⟩ rfl (by simp only[qj,length_singleton];omega) ?_
  .simp only [<- qJ] at q;exact q
  .simp only [<- qJ];refine⟨⟨by dsimp only;omega,by dsimp only;omega,by dsimp only;omega,by dsimp only;rw[qj,l4];omega,by dsimp only;rw[qj (as:=_++γ)];show _ < _+1;omega,Nat.lt_succ_self _⟩,zBD,?_,⟨[],?_,λe he=>absurd he (by simp),le_refl _,λk=>?_⟩,⟨[],?_,λe he=>absurd he (by simp),le_refl _,λk hk=>absurd hk (by simp)⟩,⟨[],?_,le_refl _⟩,List.nodup_nil,le_refl _,λk hk=>absurd hk (by simp)⟩
   .rw [qJ (bs:=[d]),qJ (bs:=γ)];exact g0 0 (by decide) _
   .rw [qJ (bs:=[d]),qJ (bs:=γ)];exact g0 1 (by decide) _
   .show (zAs [k] []).isSome=true<->_;simp[zAs]
   .rw [qJ (bs:=[d]),qJ (bs:=γ)];exact g0 2 (by decide) _
   .rw [qJ (bs:=[d]),qJ (bs:=γ)];exact g0 3 (by decide) _
end
theorem zKk (is:List Int):DOk 1 (.lst (is.map D.int)):=zPW λd h=>by
 obtain⟨i,_,rfl⟩:=mem_map.mp h;exact zG6 i
section
variable {N0 N1 w h B:Nat}{G:Mem}{P:PP}{is:List Int}{c k:Int}{L:W}{Q:MR->Prop}
theorem m46 (p:zBH N0 w h B G P is c)(hd:G[d]?=some (ordW is))(hB:B<=180)(hQ:∀ γ:Mem,Q (.dat (.bl true),G++γ)):EvP (FM46 [picW P,.loc d] G) Q:=by
 refine zCU rfl (by decide) ?_;unfold mb46;show EvP (evSs' GL1 D20 _ ⟨[some (picW P),some (.loc d),none,none],G⟩) _;refine zAC (zBI (zCl (zAF rfl ⟨_,_,_,zAn,rfl,rfl,rfl,by decide +kernel,zAY ?_⟩)));refine(show EvP (zAn [picW P] G) _ from ?_);refine zEl p (zAS ?_);(walk_at "s");have lnB:=p.ln;have dr2:drW (G++[ordW is]) (.loc G.length)=some (.lst (is.map .int)):=zBm zBD;have dr1:drW (G++[ordW is]) (.loc d)=some (.lst (is.map .int)):=zBm (zAi hd);refine zAC (zCD (zFB rfl (zKI (zKJ (zKM (zNS (zAZ (zAJ rfl dr2) (zQz (x_bl (x_bl (cb_f ?_)))))))))));refine zKK (zCc (zAZ (zAJ rfl dr2) (zAZ (zAJ rfl dr1) (zS6 (zKk is) (by decide) ⟨_,rfl,(λz=>nomatch z),λ_=>zAx (zAS ?_)⟩))));refine zAC (zDU (zDT (zAF rfl ⟨_,rfl,?_⟩)));refine zEu (s:=⟨_,_⟩) (ordW is) (λj s=>∃ o3:Option W,s=⟨[some (picW P),some (.loc d),some (.loc G.length),o3],G++[ordW is]⟩) (λj s zy166=>by obtain⟨_,es⟩:=zy166;subst es;exact zBD) ?_ ?_ ⟨none,rfl⟩
 .rintro j y s ey ⟨o3,rfl⟩;rw[getElem?_map,getElem?_map] at ey;obtain⟨d1,ey1,rfl⟩:=x9.mp ey;obtain⟨i,_,rfl⟩:=x9.mp ey1;refine⟨_,rfl,?_⟩;dsimp only;(walk_at "s");refine zAC (zCD (zFB rfl (zKM (zA5 rfl (zAk (zAZ (zAJ rfl zAM) (n_cl (zBW ?_))))))));exact h44 i _ (n_cl (x_bl ⟨_,rfl,(λz=>nomatch z),λ_=>zAx (zAS (zAx ⟨_,rfl⟩))⟩))
 .rintro s ⟨o3,rfl⟩;refine zAS (zAC (zEg (zAF rfl (zAm rfl (zAb (zAl rfl ⟨_,_,rfl,zBD,by rw[List.length_map,List.length_map];omega,zAS ?_⟩))))));dsimp only;rw[zFV];refine zAC (zP4 (zAF rfl ⟨_,_,rfl,zBD,zAS ?_⟩));dsimp only;rw[zFV];have p2:∀ X:List W,zBH N0 w h B (G++[X]) P is c:=λX=>p.keep (S:=[]) zBR.kx (by simp) (by simp)
  refine zAC (zBt (zIV (zCl (zAF rfl ⟨_,_,_,zAn,rfl,rfl,rfl,by decide +kernel,zAY ?_⟩))));refine(show EvP (zAn [picW P] _) _ from ?_);refine zEl (p2 _) (zAF rfl ⟨_,_,zBm zBD,zBm (zAi (zAi hd)),zS7 (zKk is) (by decide) (zAl rfl (zDP ?_))⟩);dsimp only;rw[qJ];exact hQ _
theorem m47 {L0 L1:W}(p:zBH N0 w h B G P is c)(hd:G[d]?=some (ordW is))(hy:G[ly]?=some [L0,L1])(y0:zDH N1 G L0)(y1:zDH N1 G L1)(hN:N0<=G.length)(dN:d < N0)(dS:d∉P.S)(yS:ly∉P.S)(yd:ly≠d)(n1:∀ y∈d::P.S,N1<=y)(hB:B<=170)(hw:Fl w h)
  (hQ:∀ (G':Mem) (is':List Int) (c':Int),Kx (d::P.S) G G'->zBH N0 w h (B+2) G' P is' c'->G'[d]?=some (ordW is')->((c'=c+1/\is.length < is'.length)\/(c'=c/\is'.length<=is.length))->Q (.dat (.bl true),G')):EvP (FM47 [picW P,.loc d,.dat (.int c),.dat (.int x),.loc ly] G) Q:=by
 refine zCU rfl (by decide) ?_;unfold mb47;show EvP (evSs' GL1 D21 _ ⟨[some (picW P),some (.loc d),some (.dat (.int c)),some (.dat (.int x)),some (.loc ly),none,none,none],G⟩) _;have lnB:=p.ln;have plo:=p.lo;have lay:∀ y:Int,∃ L,zDH N1 G L/\atI [L0,L1] (y.fmod 2)=some L:=λy=>by
  have d1:=xX y (show (0:Int) < 2 by decide);have d2:=fmod_lt_of_pos y (show (0:Int) < 2 by decide);generalize y.fmod 2=i at d1 d2;have:i=0\/i=1:=by omega
  rcases this with rfl | rfl
  .exact ⟨L0,y0,rfl⟩
  .exact ⟨L1,y1,rfl⟩
 have ld:d < G.length:=by omega
 have drd:drW G (.loc d)=some (.lst (is.map .int)):=zBm hd;have kS:∀ {O5 μ2:Mem},Kx P.S O5 μ2->Kx (d::P.S) O5 μ2:=λk=>k.more λy hy=>qY _ hy
 refine zAC (zBI (zAm rfl (zBJ (zAZ (zAJ rfl zAM) (zAb (zC5 (by decide) (zAl rfl (zAS ?_))))))));(walk_at "s");refine zAC (zCD ?_);have ADD:∀ (b:MT),EvP (evSs' GL1 D21 (.cons (.set 6 (.mth [("Picture",15)] "add" (.var 0) (.cons (.ix (.var 4) (.pur (.bin .Mod (.bin .FloorDiv (.var 3) (.int 7)) (.int 2)))) .nil))) (.cons (.app (.var 1) (.var 2)) (.cons (.ret (.pur (.andl (.cons (.call 44 "_law_whole" (.cons (.var 6) .nil)) (.cons (.cmp .Eq (.var 6) (.var 2)) .nil))))) .nil))) ⟨[some (picW P),some (.loc d),some (.dat (.int c)),some (.dat (.int x)),some (.loc ly),some (.dat (.int (x.fmod 7))),none,none],G⟩) (KM GL1 D21 b (KFM Q)):=λb=>by
  obtain⟨L,hL,eL⟩:=lay (x.fdiv 7);refine zAC (zBI (zCl (zAF rfl ⟨_,_,_,zBc,rfl,rfl,rfl,by decide +kernel,zAE (m_ix (zAF rfl (zAm rfl ?_)))⟩)));refine zBJ (zBJ (zAZ (zAJ rfl zAM) (zAb (zHI (zDG (by decide) (by decide)) (zAb (zC5 (by decide) (zAl rfl (zB4 hy eL (zAY ?_)))))))));refine(show EvP (zBc [picW P,L] G) _ from ?_);refine zSB p hL hN (by omega) hw λO5 k1 p1=>zAS ?_
  (walk_at "s");have d1:=k1.get dS hd;refine zAC (zEg (zAF rfl (zAF rfl ⟨_,_,rfl,d1,by rw[List.length_map,List.length_map];omega,zAS ?_⟩)));dsimp only;rw[show ordW is++[W.dat (D.int c)]=ordW (is++[c]) by simp[ordW]];have k2:Kx [d] O5 (O5.set d (ordW (is++[c]))):=(zCF.kx).set (.inl (by simp));refine zAC (zBt (zAm rfl (zKP (zKQ (zA5 rfl (zAk (zAZ (zAJ rfl zAM) (n_cl (zBW ?_)))))))));refine h44 c _ (n_cl (x_bl (cb_t (zKR (zCc (zAZ (zAJ rfl zAM) (zAZ (zAJ rfl zAM) (zHG ?_))))))));rw[decide_eq_true (rfl:c=c)];refine zAl rfl (zDP (hQ _ (is++[c]) (c+1) ((kS k1).trans (k2.more (by simp))) ((p1.keep k2 (by simpa using dN) (λy hy z=>dS (by rw[mem_singleton.mp z] at hy;exact hy))).mono (by omega)) (getElem?_set_self (by have:=k1.le;omega)) (.inl ⟨rfl,by rw[qj];exact Nat.lt_succ_self _⟩)))
 refine zFB rfl (zKI (zKJ (zCc (zAZ (zAJ rfl zAM) (zAb (c_lt (x_bl (zGO (λ_=>⟨true,rfl,λ_=>ADD _,(λz=>nomatch z)⟩) λ_=>?_))))))));refine zKK (zCc (zCo (zAZ (zAJ rfl drd) (zEX (zAb (zHG ⟨_,rfl,λ_=>ADD _,λz=>zAx (zAS ?_)⟩))))));have ne:0 < is.length:=by
  have e:=of_decide_eq_false (show decide _=false from z);rw[List.length_map] at e;omega
 clear ADD;obtain⟨q,hq,eq⟩:∃ q:Nat,q < is.length/\(x.fdiv 7).fmod (is.length:Int)=(q:Int):=by
  have d1:=xX (x.fdiv 7) (show (0:Int) < is.length by omega);have d2:=fmod_lt_of_pos (x.fdiv 7) (show (0:Int) < is.length by omega);exact⟨((x.fdiv 7).fmod (is.length:Int)).toNat,by omega,by omega⟩
 have ek:is[q]?=some is[q]:=getElem?_eq_getElem hq;have hk:is[q]∈is:=List.getElem_mem hq;generalize is[q]=k at ek hk;obtain⟨j,j1,j2,j3⟩:=zDq hk;refine zAC (zBI (m_ix (zAF rfl (zAm rfl (zBJ (zBJ (zAZ (zAJ rfl zAM) (zAb (zHI (zDG (by decide) (by decide)) (zCo (zAZ (zAJ rfl drd) (zEX (zC5 (by rw[List.length_map];omega) (zAl rfl ?_))))))))))))));rw[List.length_map,eq];refine zB4 (w:=.dat (.int k)) hd (zCZ (by rw[getElem?_map,getElem?_map,ek];rfl)) (zAS ?_);(walk_at "s");have k1:Kx [d] G (G.set d (ordW (is.erase k))):=(zCF.kx).set (.inl (by simp));have pk:∀ {O5:Mem},Kx [d] G O5->zBH N0 w h B O5 P is c:=λk1=>p.keep k1 (by simpa using dN) (λy hy z=>dS (by rw[mem_singleton.mp z] at hy;exact hy))
 refine zAC (zCD (zFB rfl (zCc (zAZ (zAJ rfl zAM) (zAb (zHG ⟨_,rfl,λ_=>?_,λ_=>zAx (zAS ?_)⟩))))))
 .refine zAC (zHU (zAF rfl ⟨_,rfl,zAF rfl ⟨_,_,_,j,rfl,hd,zCx is,j1,zAS ?_⟩⟩));dsimp only;rw[zCf,j2];refine zAC (zBt (zIV (zCl (zAF rfl ⟨_,_,_,zBV,rfl,rfl,rfl,by decide +kernel,zAE (zAF rfl (zAY ?_))⟩))));refine(show EvP (zBV [picW P,.dat (.int k)] _) _ from ?_);refine zPS (pk k1) hk (by omega) fun μ2 k2 p2=>zAm rfl (zHr (zAl rfl ⟨_,_,zAM,zAM,(.bl true,.cl),rfl,zAl rfl (zDP ?_)⟩))
  exact hQ μ2 (is.erase k) c ((k1.more (by simp)).trans (kS k2)) (p2.mono (by omega)) (k2.get dS (getElem?_set_self ld)) (.inr ⟨rfl,List.length_erase_le⟩)
 refine zAC (zCD (zFB rfl (zCc (zAZ (zAJ rfl zAM) (zAb (zHG ⟨_,rfl,λ_=>?_,λ_=>zAx (zAS ?_)⟩))))))
 .obtain ⟨L,hL,eL⟩:=lay (x.fdiv 63);refine zAC (zBt (zIV (zCl (zAF rfl ⟨_,_,_,zBG,rfl,rfl,rfl,by decide +kernel,zAE (zAF rfl (zAE (m_ix (zAF rfl (zAm rfl ?_)))))⟩))));refine zBJ (zBJ (zAZ (zAJ rfl zAM) (zAb (zHI (zDG (by decide) (by decide)) (zAb (zC5 (by decide) (zAl rfl (zB4 hy eL (zAY ?_)))))))));refine(show EvP (zBG [picW P,.dat (.int k),L] G) _ from ?_);refine zKs p hk hL hN hB hw fun μ2 k2 p2=>zAm rfl (zHr (zAl rfl ⟨_,_,zAM,zAM,(.bl true,.cl),rfl,zAl rfl (zDP ?_)⟩))
  exact hQ μ2 is c (kS k2) p2 (k2.get dS hd) (.inr ⟨rfl,le_refl _⟩)
 obtain⟨q2,hq2,eq2⟩:∃ q:Nat,q < is.length/\(x.fdiv 63).fmod (is.length:Int)=(q:Int):=by
  have d1:=xX (x.fdiv 63) (show (0:Int) < is.length by omega);have d2:=fmod_lt_of_pos (x.fdiv 63) (show (0:Int) < is.length by omega);exact⟨((x.fdiv 63).fmod (is.length:Int)).toNat,by omega,by omega⟩
 refine zAC (zBI (zAm rfl (zBJ (zBJ (zAZ (zAJ rfl zAM) (zAb (zHI (zDG (by decide) (by decide)) (zCo (zAZ (zAJ rfl drd) (zEX (zC5 (by rw[List.length_map];omega) (zAl rfl (zAS ?_)))))))))))));rw[List.length_map,eq2];(walk_at "s");refine zAC (zHU (zAF rfl ⟨_,rfl,zAF rfl ⟨_,_,_,j,rfl,hd,zCx is,j1,zAS ?_⟩⟩));dsimp only;rw[zCf,j2];have le:(is.erase k).length=is.length - 1:=List.length_erase_of_mem hk;refine zAC (zMr (zAF rfl ⟨_,rfl,zAF rfl (zAF rfl ⟨_,_,rfl,getElem?_set_self ld,⟨by omega,by rw[List.length_map,List.length_map];omega,by rw[List.length_map,List.length_map];omega⟩,zAS ?_⟩)⟩));dsimp only;rw[toNat_natCast,zJF];have k3:Kx [d] G ((G.set d (ordW (is.erase k))).set d (ordW (zEY q2 k (is.erase k)))):=k1.set (.inl (by simp));refine zAC (zBt (zIV (zCl (zAF rfl ⟨_,_,_,zBU,rfl,rfl,rfl,by decide +kernel,zAE (zAF rfl (zAE (zAF rfl (zAY ?_))))⟩))));refine(show EvP (zBU [picW P,.dat (.int k),.dat (.int (q2:Int))] _) _ from ?_);refine zOP (pk k3) hk hq2 (by omega) λZ8 k4 p4=>zAm rfl (zHr (zAl rfl ⟨_,_,zAM,zAM,(.bl true,.cl),rfl,zAl rfl (zDP ?_)⟩))
 exact hQ Z8 _ c ((k3.more (by simp)).trans (kS k4)) (p4.mono (by omega)) (k4.get dS (getElem?_set_self (by rw[length_set];exact ld))) (.inr ⟨rfl,by rw[(zHm hk).length_eq];exact le_refl _⟩)
end
theorem zMb (ns:List Int)(l u:Option Int):∃ ms:List Int,cutD (ns.map D.int) l u=ms.map D.int/\ms.length<=ns.length:=by
 unfold cutD;rw[List.length_map];exact⟨(ns.drop (HT.sIx ns.length 0 l)).take (HT.sIx ns.length ns.length u - HT.sIx ns.length 0 l),by rw[List.map_take,List.map_drop],by rw[length_take,List.length_drop];omega⟩
structure ST where
 N0:Nat
 N1:Nat
 pl:Nat
 dl:Nat
 gv:Nat
 ly:Nat
 P:Nat->PP
 d:Nat->Nat
 L0:W
 L1:W
abbrev ST.M (s:ST) (i:Nat):List Nat:=s.d i::(s.P i).S
structure ST.Ok (s:ST):Prop where
 dN:∀ i,i < 2->s.d i < s.N0
 own:∀ i,i < 2->s.d i∉(s.P i).S
 sep:∀ i j,i < 2->j < 2->i≠j->∀ y∈s.M i,y∉s.M j
 oth:∀ i,i < 2->s.pl∉s.M i/\s.dl∉s.M i/\s.gv∉s.M i/\s.ly∉s.M i
 n1:∀ i,i < 2->∀ y∈s.M i,s.N1<=y
 g:s.N1<=s.gv/\s.gv < s.N0/\s.gv≠s.pl/\s.gv≠s.dl/\s.gv≠s.ly
structure LI (s:ST)(w h B:Nat)(G:Mem)(is:Nat->List Int)(c:Nat->Int):Prop where
 pic:∀ i,i < 2->zBH s.N0 w h B G (s.P i) (is i) (c i)
 due:∀ i,i < 2->G[s.d i]?=some (ordW (is i))
 pl:G[s.pl]?=some [picW (s.P 0),picW (s.P 1)]
 dl:G[s.dl]?=some [.loc (s.d 0),.loc (s.d 1)]
 gv:G[s.gv]?=some [.dat (.int (c 0)),.dat (.int (c 1))]
 ly:G[s.ly]?=some [s.L0,s.L1]
 y0:zDH s.N1 G s.L0
 y1:zDH s.N1 G s.L1
 le:s.N0<=G.length
theorem LI.app {γ:Mem}(L:LI s w h B G is c):LI s w h B (G++γ) is c :=
 ⟨λi hi=>(L.pic i hi).keep (S:=[]) zBR.kx (by simp) (by simp),λi hi=>zAi (L.due i hi),zAi L.pl,zAi L.dl,zAi L.gv,zAi L.ly,L.y0.keep (S:=[]) zBR.kx (by simp),L.y1.keep (S:=[]) zBR.kx (by simp),by have:=L.le;rw[qj];omega⟩
theorem two {U:Type}{i:Nat}(f:Nat->U)(h:i < 2):atI [f 0,f 1] (i:Int)=some (f i):=by
 have:i=0\/i=1:=by omega
 rcases this with rfl | rfl<;>rfl
theorem zPT (L:LI s w h B G is c):drW G (.loc s.dl)=some (.lst [.lst ((is 0).map .int),.lst ((is 1).map .int)]):=by
 have e:Ll G s.dl [(s.d 0,(is 0).map .int),(s.d 1,(is 1).map .int)]:=⟨L.dl,λp hp=>by
  simp_all
  rcases hp with rfl | rfl
  .exact L.due 0 (by simp)
  .exact L.due 1 (by simp)⟩
 exact e.dr
theorem zJe (T:s.Ok)(hw:Fl w h)(L:LI s w h 0 G (λ_=>[]) (λ_=>0))(hc:G[cl]?=some (ordW xs))(cN:s.N0<=cl)(hx:xs.length<=70)(o9 o10 o11 o12:Option W)(hQ:∀ G',Q (.dat (.bl true),G')) :
  EvP (evSs' GL1 D22 (.cons (.for1 9 (.rng (.pur (.len (.var 8)))) (.cons (.set 10 (.pur (.call 45 "_law_spread" (.cons (.ix (.var 8) (.var 9)) (.cons (.var 9) .nil))))) (.cons (.set 11 (.pur (.bin .Mod (.var 10) (.int 2)))) (.cons (.set 12 (.pur (.len (.ix (.var 6) (.var 11))))) (.cons (.ife (.not (.call 21 "_law_deed" (.cons (.ix (.var 5) (.var 11)) (.cons (.ix (.var 6) (.var 11)) (.cons (.ix (.var 7) (.var 11)) (.cons (.pur (.bin .FloorDiv (.var 10) (.int 2))) (.cons (.var 4) .nil))))))) (.cons (.ret (.pur (.bl false))) .nil) .nil) (.cons (.ife (.pur (.cmp .Gt (.len (.ix (.var 6) (.var 11))) (.var 12))) (.cons (.iaug (.var 7) (.var 11) (.pur (.int 1))) .nil) .nil) (.cons (.ife (.orl (.cons (.not (.call 20 "_law_stands" (.cons (.ix (.var 5) (.pur (.int 0))) (.cons (.ix (.var 6) (.pur (.int 0))) .nil)))) (.cons (.not (.call 20 "_law_stands" (.cons (.ix (.var 5) (.pur (.int 1))) (.cons (.ix (.var 6) (.pur (.int 1))) .nil)))) .nil))) (.cons (.ret (.pur (.bl false))) .nil) .nil) .nil))))))) (.cons (.ret (.pur (.bl true))) .nil))
   ⟨[some (.dat (scr ns)),some (.dat (.int (w:Int))),some (.dat (.int (h:Int))),o3,some (.loc s.ly),some (.loc s.pl),some (.loc s.dl),some (.loc s.gv),some (.loc cl),o9,o10,o11,o12],G⟩) (KFM Q):=by
 refine zAC (zDU (zC9 (zAm rfl (zCo (zAZ (zAJ rfl (zBm hc)) (zEX (zAl rfl ⟨_,rfl,by rw[List.length_map];omega,?_⟩)))))));rw[List.length_map,toNat_natCast];refine zEu (s:=⟨_,_⟩) ((rngL 0 xs.length).map .dat) (λj t=>∃ (o9 o10 o11 o12:Option W) (G':Mem) (is:Nat->List Int) (c:Nat->Int),t=⟨[some (.dat (scr ns)),some (.dat (.int (w:Int))),some (.dat (.int (h:Int))),o3,some (.loc s.ly),some (.loc s.pl),some (.loc s.dl),some (.loc s.gv),some (.loc cl),o9,o10,o11,o12],G'⟩/\LI s w h (2*j) G' is c/\G'[cl]?=some (ordW xs)) (λ_ _ _=>rfl) ?_ ?_ ⟨o9,o10,o11,o12,G,_,_,rfl,L,hc⟩
 .rintro j y t ey ⟨o9,o10,o11,o12,G',is,c,rfl,Li,hc'⟩;obtain⟨rfl,hj⟩:=idx ey;have e1:xs[j]?=some xs[j]:=getElem?_eq_getElem hj;generalize xs[j]=x0 at e1;refine⟨_,rfl,?_⟩;dsimp only;(walk_at "s");refine zAC (zBI (zAm rfl (zA5 rfl (zAk (zEI (zAZ (zAJ rfl (zBm hc')) (zAZ (zAJ rfl zAM) (zEE (d:=.int x0) (zCZ (by rw[getElem?_map,e1];rfl)) (n_cl (zAk (zAZ (zAJ rfl zAM) (n_cl (zBW ?_)))))))))))));refine h45 x0 (j:Int) _ (by omega) (by omega) λx=>n_cl (zAl rfl (zAS ?_))
  (walk_at "s");refine zAC (zBI (zAm rfl (zBJ (zAZ (zAJ rfl zAM) (zAb (zC5 (by decide) (zAl rfl (zAS ?_))))))));(walk_at "s");obtain⟨i,hi,ei⟩:∃ i:Nat,i < 2/\x.fmod 2=(i:Int):=by
   have d1:=xX x (show (0:Int) < 2 by decide);have d2:=fmod_lt_of_pos x (show (0:Int) < 2 by decide);exact⟨(x.fmod 2).toNat,by omega,by omega⟩
  rw[ei];have dr0:=zPT Li;refine zAC (zBI (zAm rfl (zCo (zEI (zAZ (zAJ rfl dr0) (zAZ (zAJ rfl zAM) (zEE (two (λi=>D.lst ((is i).map .int)) hi) (zEX (zAl rfl (zAS ?_))))))))));rw[List.length_map];(walk_at "s");refine zAC (zCD (zGZ (zCE (F:=FM47) rfl (zAE (m_ix (zAF rfl (zAF rfl (zB4 Li.pl (two (λi=>picW (s.P i)) hi) (zAE (m_ix (zAF rfl (zAF rfl (zB4 Li.dl (two (λi=>W.loc (s.d i)) hi) (zAE (m_ix (zAF rfl (zAF rfl (zB4 Li.gv (two (λi=>W.dat (.int (c i))) hi) (zAE (zAm rfl ?_))))))))))))))))))));refine zBJ (zAZ (zAJ rfl zAM) (zAb (zHI (zDG (by decide) (by decide)) (zAl rfl (zAE (zAF rfl (zAY ?_)))))));refine(show EvP (FM47 [picW (s.P i),.loc (s.d i),.dat (.int (c i)),.dat (.int (x.fdiv 2)),.loc s.ly] G') _ from ?_);obtain⟨t1,t2,t3,t4⟩:=T.oth i hi;refine m47 (N1:=s.N1) (Li.pic i hi) (Li.due i hi) Li.ly Li.y0 Li.y1 Li.le (T.dN i hi) (T.own i hi) (λz=>t4 (qY _ z)) (λz=>t4 (by rw[z];exact q8)) (T.n1 i hi) (by omega) hw fun μ2 is' c' k2 p2 d2 hcs=>⟨true,rfl,(λz=>nomatch z),λ_=>zAx (zAS ?_)⟩
  have mN:∀ y∈s.M i,y < s.N0:=λy hy=>by
   rcases mem_cons.mp hy with rfl | z
   .exact T.dN i hi
   .exact (Li.pic i hi).lo y z
  have L2:∀ cc:Nat->Int,(∀ j',j' < 2->j'≠i->cc j'=c j')->cc i=c'->∀ O6,Kx [s.gv] μ2 O6->O6[s.gv]?=some [.dat (.int (cc 0)),.dat (.int (cc 1))]->LI s w h (2*(j+1)) O6 (λj'=>if j'=i then is' else is j') cc:=λcc hcc hci O6 k3 g3=>by
   obtain⟨g1,g2,g4,g5,g6⟩:=T.g;have sg:∀ {y:Nat},y≠s.gv->y∉[s.gv]:=λz y=>z (mem_singleton.mp y)
   refine⟨λj' hj'=>?_,λj' hj'=>?_,k3.get (sg (Ne.symm g4)) (k2.get t1 Li.pl),k3.get (sg (Ne.symm g5)) (k2.get t2 Li.dl),g3,k3.get (sg (Ne.symm g6)) (k2.get t4 Li.ly),(Li.y0.keep k2 (T.n1 i hi)).keep k3 (by simpa using g1),(Li.y1.keep k2 (T.n1 i hi)).keep k3 (by simpa using g1),by have:=k2.le;have:=k3.le;have:=Li.le;omega⟩
   .have og:=(T.oth j' hj').2.2.1;have nog:∀ y∈(s.P j').S,y∉[s.gv]:=λy hy=>sg λz=>og (by rw[<- z];exact qY _ hy)
    by_cases z:j'=i
    .subst z;rw[if_pos rfl,hci];exact(p2.keep k3 (by simpa using g2) nog).mono (by omega)
    .rw [if_neg z,hcc j' hj' z];refine(((Li.pic j' hj').keep k2 mN (λy hy q=>T.sep j' i hj' hi z y (qY _ hy) q)).keep k3 (by simpa using g2) nog).mono (by omega)
   .have og:=(T.oth j' hj').2.2.1;have nd:s.d j'∉[s.gv]:=sg λz=>og (by rw[<- z];exact q8)
    by_cases z:j'=i
    .subst z;rw[if_pos rfl];exact k3.get nd d2
    .rw [if_neg z];exact k3.get nd (k2.get (λq=>T.sep j' i hj' hi z _ q8 q) (Li.due j' hj'))
  have cl2:=k2.get (y:=cl) (λz=>by have:=mN _ z;omega) hc';have gv2:=k2.get t3 Li.gv;have dr2:drW μ2 (.loc s.dl)=some (.lst [.lst ((if 0=i then is' else is 0).map .int),.lst ((if 1=i then is' else is 1).map .int)]):=by
   have e:Ll μ2 s.dl [(s.d 0,(if 0=i then is' else is 0).map .int),(s.d 1,(if 1=i then is' else is 1).map .int)]:=⟨k2.get t2 Li.dl,λp hp=>by
    simp only[mem_cons,not_mem_nil,or_false] at hp;have key:∀ j',j' < 2->μ2[s.d j']?=some (ordW (if j'=i then is' else is j')):=λj' hj'=>by
     by_cases z:j'=i
     .subst z;rw[if_pos rfl];exact d2
     .rw [if_neg z];exact k2.get (λq=>T.sep j' i hj' hi z _ q8 q) (Li.due j' hj')
    rcases hp with rfl | rfl
    .exact key 0 (by decide)
    .exact key 1 (by decide)⟩
   exact e.dr
  have fin:∀ (cc:Nat->Int) (O6:Mem),LI s w h (2*(j+1)) O6 (λj'=>if j'=i then is' else is j') cc->O6[cl]?=some (ordW xs)->EvP (evSs' GL1 D22 (.cons (.ife (.orl (.cons (.not (.call 20 "_law_stands" (.cons (.ix (.var 5) (.pur (.int 0))) (.cons (.ix (.var 6) (.pur (.int 0))) .nil)))) (.cons (.not (.call 20 "_law_stands" (.cons (.ix (.var 5) (.pur (.int 1))) (.cons (.ix (.var 6) (.pur (.int 1))) .nil)))) .nil))) (.cons (.ret (.pur (.bl false))) .nil) .nil) .nil) ⟨[some (.dat (scr ns)),some (.dat (.int (w:Int))),some (.dat (.int (h:Int))),o3,some (.loc s.ly),some (.loc s.pl),some (.loc s.dl),some (.loc s.gv),some (.loc cl),some (.dat (.int (j:Int))),some (.dat (.int x)),some (.dat (.int (i:Int))),some (.dat (.int ((is i).length:Int)))],O6⟩) (KLM (λt=>∃ (o9 o10 o11 o12:Option W) (G':Mem) (is:Nat->List Int) (c:Nat->Int),t=⟨[some (.dat (scr ns)),some (.dat (.int (w:Int))),some (.dat (.int (h:Int))),o3,some (.loc s.ly),some (.loc s.pl),some (.loc s.dl),some (.loc s.gv),some (.loc cl),o9,o10,o11,o12],G'⟩/\LI s w h (2*(j+1)) G' is c/\G'[cl]?=some (ordW xs)) (KM GL1 D22 (.cons (.ret (.pur (.bl true))) .nil) (KFM Q))):=λcc O6 L3 c3=>by
   refine zAC (zCD (zPr (zGZ (zCE (F:=FM46) rfl (zAE (m_ix (zAF rfl (zAm rfl (zAb (zAl rfl (zB4 L3.pl (two (i:=0) (λi=>picW (s.P i)) (by decide)) (zAE (m_ix (zAF rfl (zAm rfl (zAb (zAl rfl (zB4 L3.dl (two (i:=0) (λi=>W.loc (s.d i)) (by decide)) (zAY ?_)))))))))))))))))));refine(show EvP (FM46 [picW (s.P 0),.loc (s.d 0)] O6) _ from ?_);refine m46 (L3.pic 0 (by decide)) (L3.due 0 (by decide)) (by omega) fun γ=>⟨true,rfl,rfl,?_⟩
   have L4:=L3.app (γ:=γ);refine zGZ (zCE (F:=FM46) rfl (zAE (m_ix (zAF rfl (zAm rfl (zAb (zAl rfl (zB4 L4.pl (two (i:=1) (λi=>picW (s.P i)) (by decide)) (zAE (m_ix (zAF rfl (zAm rfl (zAb (zAl rfl (zB4 L4.dl (two (i:=1) (λi=>W.loc (s.d i)) (by decide)) (zAY ?_))))))))))))))));refine(show EvP (FM46 [picW (s.P 1),.loc (s.d 1)] (O6++γ)) _ from ?_);refine m46 (L4.pic 1 (by decide)) (L4.due 1 (by decide)) (by omega) λO4=>⟨true,rfl,(λz=>nomatch z),λ_=>zAx (zAS (zAx ?_))⟩
   exact⟨_,_,_,_,_,_,cc,rfl,L4.app,zAi (zAi c3)⟩
  refine zAC (zCD (zFB rfl (zCc (zCo (zEI (zAZ (zAJ rfl dr2) (zAZ (zAJ rfl zAM) (zEE (two (λj'=>D.lst ((if j'=i then is' else is j').map .int)) hi) (zEX (zAZ (zAJ rfl zAM) (c_gt ?_)))))))))));rw[List.length_map,if_pos rfl];rcases hcs with ⟨rfl,lt⟩ | ⟨rfl,ge⟩
  .refine ⟨_,rfl,λ_=>?_,λz=>absurd (of_decide_eq_false (show decide _=false from z)) (by omega)⟩;obtain⟨g1,g2,g4,g5,g6⟩:=T.g;have lg:s.gv < μ2.length:=(zzg gv2).1;refine zAC (zNi (zAF rfl (zAF rfl ⟨_,_,_,_,rfl,rfl,gv2,two (λi=>W.dat (.int (c i))) hi,zAm rfl (zAb (zAl rfl ⟨_,_,i,rfl,gv2,?_,zAS (zAx (zAS ?_))⟩))⟩)))
   .have:i=0\/i=1:=by omega
    rcases this with rfl | rfl<;>rfl
   dsimp only;have es:([W.dat (.int (c 0)),.dat (.int (c 1))]:List W).set i (.dat (.int (c i+1)))=[.dat (.int (if 0=i then c i+1 else c 0)),.dat (.int (if 1=i then c i+1 else c 1))]:=by
    have:i=0\/i=1:=by omega
    rcases this with rfl | rfl<;>rfl
   rw[es];have k3:Kx [s.gv] μ2 (μ2.set s.gv [.dat (.int (if 0=i then c i+1 else c 0)),.dat (.int (if 1=i then c i+1 else c 1))]):=(zCF.kx).set (.inl (by simp));exact fin (λj'=>if j'=i then c i+1 else c j') _ (L2 _ (λj' _ z=>if_neg z) (if_pos rfl) _ k3 (getElem?_set_self lg)) (k3.get (by simp;omega) cl2)
  .refine ⟨_,rfl,λz=>absurd (of_decide_eq_true (show decide _=true from z)) (by omega),λ_=>zAx (zAS ?_)⟩;exact fin c _ (L2 c (λ_ _ _=>rfl) rfl _ (zCF.kx) gv2) cl2
 .rintro t ⟨o9,o10,o11,o12,G',is,c,rfl,Li,hc'⟩;exact zAS (zAC (zBt (zAm rfl (zPA (zAl rfl (zDP (hQ G')))))))
theorem Rw.lts (e:Rw G n b l rows):∀ p∈l,p.1 < G.length:=e.ll.lt.2
theorem zLY (ms:List Int):noLs (ms.map D.int)=true:=by
 induction ms with
 | nil=>rfl
 | cons m ms ih =>
  assumption
abbrev boxP:List D:=[pz false false,pz true false,pz true true,pz false true]
theorem n1o (h:0<=x):∃ w:Nat,1+x=(w:Int):=⟨(1+x).toNat,by omega⟩
theorem flo {x y:Int}{w h:Nat}(a:0<=x)(b:x < 3)(c:0<=y)(d:y < 2)(e:1+x=w)(f:1+y=h):Fl w h:=⟨by omega,by omega,by omega,by omega⟩
theorem zQr (ns:List Int)(hn:ns.length<=63):EvP (FM48 [.dat (scr ns)] []) λx=>x.1=.dat (.bl true):=by
 refine zCU rfl (by decide) ?_;show EvP (evSs' GL1 D22 mb48 ⟨[some (.dat (scr ns)),none,none,none,none,none,none,none,none,none,none,none,none],[]⟩) _;unfold mb48;refine zAC (zBI (zAm rfl (zBJ (zAb (zBJ (zA5 rfl (zAk (zAZ (zAJ rfl zAM) (n_cl (zAk (zAb (n_cl (zBW ?_)))))))))))));refine h43 ns 0 _ (by decide) ?_;refine n_cl (zAb (zC5 (by decide) (zHJ (zAl rfl (zAS ?_)))));(walk_at "s");refine zAC (zBI (zAm rfl (zBJ (zAb (zBJ (zA5 rfl (zAk (zAZ (zAJ rfl zAM) (n_cl (zAk (zAb (n_cl (zBW ?_)))))))))))));refine h43 ns 1 _ (by decide) ?_;refine n_cl (zAb (zC5 (by decide) (zHJ (zAl rfl (zAS ?_)))));(walk_at "s");have a1:=xX (cel ns 0) (show (0:Int) < 3 by decide);have a2:=fmod_lt_of_pos (cel ns 0) (show (0:Int) < 3 by decide);have a3:=xX (cel ns 1) (show (0:Int) < 2 by decide);have a4:=fmod_lt_of_pos (cel ns 1) (show (0:Int) < 2 by decide);obtain⟨w,ew⟩:=n1o a1;obtain⟨h,eh⟩:=n1o a3;rw[ew,eh];have hw:=flo a1 a2 a3 a4 ew eh;clear a1 a2 a3 a4 ew eh;refine zAC (zBI (zEW (zAE (zEW (zAE (zAm rfl ?_))))));(walk_at "w");refine zAl rfl (zAE (zAm rfl ?_));(walk_at "w");refine zAl rfl (zAE (zAm rfl ?_));(walk_at "w");refine zAl rfl (zAE (zAm rfl ?_));(walk_at "w");refine zAl rfl (zAY ⟨by show 4<=10000;decide,zAY ⟨by show 1<=10000;decide,zAS ?_⟩⟩);(walk_at "s");have R0:Rw [boxP.map W.dat,[.loc 0]] 1 0 [(0,boxP)] (shB true):=⟨⟨rfl,λp hp=>by rw[mem_singleton.mp hp];rfl⟩,λ_ _=>zero_le _,zero_le _,rfl⟩;refine(show EvP (evSs' GL1 D22 _ ⟨[some (.dat (scr ns)),some (.dat (.int (w:Int))),some (.dat (.int (h:Int))),some (.loc 1),none,none,none,none,none,none,none,none,none],[boxP.map W.dat,[.loc 0]]⟩) _ from ?_);generalize ([boxP.map W.dat,[.loc 0]]:Mem)=G at R0;refine zAC (zBI (zEW (zAE (m_mk (F:=zC4) (y := "Fill()") rfl (by decide +kernel) (zAE (zAF rfl (zAE (zAm rfl ?_))))))));(walk_at "w");refine zAl rfl (zAY ?_);refine(show EvP (zC4 [.loc 1,.dat (inkD 1 2 3),.dat .non] G) _ from ?_);refine zSi R0 (by decide) (by decide) λY1 m1 l1 R1=>?_
 refine zAE (m_mk (F:=zDS) (y := "Rub()") rfl (by decide +kernel) (zAE (zEW (zAY ⟨zero_le _,zAY ?_⟩))));refine(show EvP (zDS [.loc (G++Y1).length,.dat .non] (G++Y1++[[]])) _ from ?_);have Rn:Rw (G++Y1++[[]]) (G++Y1).length 0 [] (shB false):=⟨⟨zBD,λp hp=>absurd hp (by simp)⟩,λ_ _=>zero_le _,zero_le _,rfl⟩;refine mRub Rn (by decide) (by decide) λO4 m2 l2 R2=>zAY ⟨by show 2<=10000;decide,zAS ?_⟩
 (walk_at "s");have R1':=(R1.below (zero_le _)).keep (μ2:=G++Y1++[[]]++O4) zBR.app;have R2':=R2.below (zero_le _);have y0:zDH (G++Y1++[[]]++O4).length (G++Y1++[[]]++O4) (zKD m1):=⟨m1,l1,true,.inl rfl,R1'.lt,R1'.lts,R1'⟩;have y1:zDH (G++Y1++[[]]++O4).length (G++Y1++[[]]++O4) (rubW m2):=⟨m2,l2,false,.inr rfl,R2'.lt,R2'.lts,R2'⟩;clear R0 R1 R2 Rn R1' R2';generalize G++Y1++[[]]++O4=a at y0 y1;generalize zKD m1=L0 at y0;generalize rubW m2=L1 at y1;refine zAC (zBI (zEW (zAE (m_mk (F:=zBF) (y := "Picture()") rfl (by decide +kernel) (zAE (zAF rfl (zAE (zAF rfl (zAY ?_)))))))));refine(show EvP (zBF [.dat (.int (w:Int)),.dat (.int (h:Int)),.dat .non] (a++[[L0,L1]])) _ from ?_);refine zNB (by have:=hw.w2;omega) (by have:=hw.h2;omega) λY6 P0 o0 x0 p0=>?_
 refine zAE (m_mk (F:=zBF) (y := "Picture()") rfl (by decide +kernel) (zAE (zAF rfl (zAE (zAF rfl (zAY ?_))))));refine(show EvP (zBF [.dat (.int (w:Int)),.dat (.int (h:Int)),.dat .non] (a++[[L0,L1]]++Y6)) _ from ?_);refine zNB (by have:=hw.w2;omega) (by have:=hw.h2;omega) λY9 P1 o1 x1 p1=>zAY ⟨by show 2<=10000;decide,zAS ?_⟩
 (walk_at "s");have lyg:(a++[[L0,L1]]++Y6++Y9)[a.length]?=some [L0,L1]:=zAi (zAi zBD);have p0':zBH (P0.x+1) w h 0 (a++[[L0,L1]]++Y6++Y9) P0 [] 0:=p0.keep (S:=[]) zBR.kx (by simp) (by simp);have z0:zDH a.length (a++[[L0,L1]]++Y6++Y9) L0:=y0.keep (S:=[]) zBR.app.app.kx (by simp);have z1:zDH a.length (a++[[L0,L1]]++Y6++Y9) L1:=y1.keep (S:=[]) zBR.app.app.kx (by simp);have e0:P0.o=a.length+1:=by rw[<- o0,qj];rfl
 rw[<- x0] at o1;refine(show EvP (evSs' GL1 D22 _ ⟨[some (.dat (scr ns)),some (.dat (.int (w:Int))),some (.dat (.int (h:Int))),some (.loc 1),some (.loc a.length),some (.loc (a++[[L0,L1]]++Y6++Y9).length),none,none,none,none,none,none,none],a++[[L0,L1]]++Y6++Y9++[[picW P0,picW P1]]⟩) _ from ?_);generalize a++[[L0,L1]]++Y6++Y9=c at lyg p0' p1 z0 z1 x1;refine zAC (zBI (zEW (zAE (zEW (zAY ⟨zero_le _,zAE (zEW (zAY ⟨zero_le _,zAY ⟨by show 2<=10000;decide,zAS ?_⟩⟩))⟩)))));(walk_at "s");refine zAC (zBI (zAm rfl (zNR (zAk (zAb (n_cl (zAk (zAb (n_cl (zBW ?_))))))))));(walk_at "w");refine zKz rfl (zAS ?_);(walk_at "s");have q0:=p0'.d;have q1:=p1.d;have T:ST.Ok ⟨c.length+5,a.length,c.length,c.length+3,c.length+4,a.length,λi=>if i=0 then P0 else P1,λi=>if i=0 then c.length+1 else c.length+2,L0,L1⟩:=by
  have c2:∀ {i:Nat},i < 2->i=0\/i=1:=λh=>by omega
  refine⟨λi hi=>?_,λi hi=>?_,λi j hi hj ne y hy z=>?_,λi hi=>?_,λi hi y hy=>?_,?_⟩
  .rcases c2 hi with rfl | rfl
   .show c.length+1 < c.length+5;omega
   .show c.length+2 < c.length+5;omega
  .rcases c2 hi with rfl | rfl
   .show c.length+1∉P0.S;simp only[PP.S,mem_cons,not_mem_nil,or_false];omega
   .show c.length+2∉P1.S;simp only[PP.S,mem_cons,not_mem_nil,or_false];omega
  .rcases c2 hi with rfl | rfl<;>rcases c2 hj with rfl | rfl
   .exact ne rfl
   .replace hy:y∈(c.length+1)::P0.S:=hy;replace z:y∈(c.length+2)::P1.S:=z;simp only[PP.S,mem_cons,not_mem_nil,or_false] at hy z;omega
   .replace hy:y∈(c.length+2)::P1.S:=hy;replace z:y∈(c.length+1)::P0.S:=z;simp only[PP.S,mem_cons,not_mem_nil,or_false] at hy z;omega
   .exact ne rfl
  .rcases c2 hi with rfl | rfl
   .show c.length∉(c.length+1)::P0.S/\c.length+3∉(c.length+1)::P0.S/\c.length+4∉(c.length+1)::P0.S/\a.length∉(c.length+1)::P0.S;simp only[PP.S,mem_cons,not_mem_nil,or_false];omega
   .show c.length∉(c.length+2)::P1.S/\c.length+3∉(c.length+2)::P1.S/\c.length+4∉(c.length+2)::P1.S/\a.length∉(c.length+2)::P1.S;simp only[PP.S,mem_cons,not_mem_nil,or_false];omega
  .show a.length<=y;rcases c2 hi with rfl | rfl
   .replace hy:y∈(c.length+1)::P0.S:=hy;simp only[PP.S,mem_cons,not_mem_nil,or_false] at hy;omega
   .replace hy:y∈(c.length+2)::P1.S:=hy;simp only[PP.S,mem_cons,not_mem_nil,or_false] at hy;omega
  .show a.length<=c.length+4/\c.length+4 < c.length+5/\c.length+4≠c.length/\c.length+4≠c.length+3/\c.length+4≠a.length;omega
 have up:∀ {P:PP},zBH (P.x+1) w h 0 c P [] 0->P.x+1<=c.length->∀ γ:Mem,zBH (c.length+5) w h 0 (c++γ) P [] 0:=λ{P} p l γ=>by
  have p':=p.keep (S:=[]) (zBR (γ:=γ)).kx (by simp) (by simp);obtain⟨lb,b1,b2,b3,_⟩:=p'.hb;have d:=p'.d;exact⟨by omega,p'.hx,p'.ho,p'.ha,⟨lb,b1,b2,b3,λk hk=>absurd hk (by simp)⟩,p'.hm,p'.nd,p'.ln,p'.lt⟩
 have Li:LI ⟨c.length+5,a.length,c.length,c.length+3,c.length+4,a.length,λi=>if i=0 then P0 else P1,λi=>if i=0 then c.length+1 else c.length+2,L0,L1⟩ w h 0 (c++[[picW P0,picW P1],[],[],[.loc (c.length+1),.loc (c.length+2)],[.dat (.int 0),.dat (.int 0)]]) (λ_=>[]) (λ_=>0):=by
  have c2:∀ {i:Nat},i < 2->i=0\/i=1:=λh=>by omega
  have g:∀ (i:Nat),(c++[[picW P0,picW P1],[],[],[.loc (c.length+1),.loc (c.length+2)],[.dat (.int 0),.dat (.int 0)]])[c.length+i]?=([[picW P0,picW P1],[],[],[.loc (c.length+1),.loc (c.length+2)],[.dat (.int 0),.dat (.int 0)]]:Mem)[i]?:=λi=>by
   rw[getElem?_append_right (by omega),Nat.add_sub_cancel_left]
  refine⟨λi hi=>?_,λi hi=>?_,g 0,g 3,g 4,zAi lyg,z0.keep (S:=[]) zBR.kx (by simp),z1.keep (S:=[]) zBR.kx (by simp),by rw[qj];exact le_refl _⟩
  .rcases c2 hi with rfl | rfl
   .exact up p0' (by omega) _
   .exact up p1 (by omega) _
  .rcases c2 hi with rfl | rfl
   .exact g 1
   .exact g 2
 have eM:c++[[picW P0,picW P1]]++[[]]++[[]]++[[W.loc (c++[[picW P0,picW P1]]).length,W.loc (c++[[picW P0,picW P1]]++[[]]).length]]++[[D.int 0,D.int 0].map W.dat]=c++[[picW P0,picW P1],[],[],[.loc (c.length+1),.loc (c.length+2)],[.dat (.int 0),.dat (.int 0)]]:=by simp
 rw[eM];have lM:(c++[[picW P0,picW P1],[],[],[.loc (c.length+1),.loc (c.length+2)],[.dat (.int 0),.dat (.int 0)]]).length=c.length+5:=by rw[qj];rfl
 have e6:(c++[[picW P0,picW P1]]++[[]]++[[]]).length=c.length+3:=by simp
 have e7:(c++[[picW P0,picW P1]]++[[]]++[[]]++[[W.loc (c++[[picW P0,picW P1]]).length,W.loc (c++[[picW P0,picW P1]]++[[]]).length]]).length=c.length+4:=by simp
 rw[e7,e6];generalize c++[[picW P0,picW P1],[],[],[.loc (c.length+1),.loc (c.length+2)],[.dat (.int 0),.dat (.int 0)]]=M at Li lM;obtain⟨ms,em,lm⟩:=zMb ns (some 3) (some 33);refine zAC (zBI (zAm rfl (zRt (zAZ (zAJ rfl zAM) ⟨some 3,rfl,some 33,rfl,ns.map .int,rfl,?_⟩))));rw[em];refine zKz (zLY ms) (zAS ?_);(walk_at "s");have c3:=h43 ns 2;obtain⟨n,n1,en⟩:∃ n:Nat,n<=11/\3+(cel ns 2).fmod 9=(n:Int):=by
  have d1:=xX (cel ns 2) (show (0:Int) < 9 by decide);have d2:=fmod_lt_of_pos (cel ns 2) (show (0:Int) < 9 by decide);exact⟨(3+(cel ns 2).fmod 9).toNat,by omega,by omega⟩
 refine zAC (zCD (zFB rfl (zCc (zCo (zAZ (zAJ rfl (zBm zBD)) (zEX (zAb (zHG ⟨_,rfl,λ_=>?_,λ_=>zAx (zAS ?_)⟩))))))))
 .refine zAC (zGb (crng (n:=n) (λj G' d=>G'=M++[(ms.map D.int).map W.dat]/\∃ ys:List Int,d=ordW ys/\ys.length=j) ?_ rfl (by omega) ⟨rfl,[],rfl,rfl⟩ (λj G' d zy167=>by obtain⟨_,ys,e1,e2⟩:=zy167;rw[e1,List.length_map,List.length_map,e2]) (λj G' d hj ⟨e1,ys,e2,e3⟩=>?_) λG' d ⟨e1,ys,e2,e3⟩=>zAS (zAx (zAS ?_))))
  .refine zAm rfl (zBJ (zAb (zBJ (zA5 rfl (zAk (zAZ (zAJ rfl zAM) (n_cl (zAk (zAb (n_cl (zBW ?_)))))))))));refine h43 ns 2 _ (by decide) (n_cl (zAb (zC5 (by decide) (zHJ ?_))));rw[en];exact zAl rfl rfl
  .subst e1 e2;refine zAm rfl (zA5 rfl (zAk (zAZ (zAJ rfl zAM) (n_cl (zAk (zBJ (zAb (zAZ (zAJ rfl zAM) (zHJ (n_cl (zBW ?_)))))))))));refine h43 ns (3+(j:Int)) _ (by omega) (n_cl (zAl rfl ⟨rfl,ys++[cel ns (3+(j:Int))],by simp[ordW],by rw[qj,e3];rfl⟩))
  .subst e1 e2;(walk_at "s");exact zJe (ns:=ns) (xs:=ys) T hw ((Li.app).app) zBD (by show c.length+5<=_;rw[qj,lM];omega) (by omega) none none none none λ_=>rfl
 .exact zJe (ns:=ns) (xs:=ms) T hw Li.app zBD (by show c.length+5<=_;omega) (by omega) none none none none λ_=>rfl
theorem law_true (ns:List Int)(hn:ns.length<=63):∃ G,FM48 [.dat (.lst (ns.map D.int))] []=some (.dat (.bl true),G):=by
 obtain⟨⟨w,G⟩,e,q⟩:=zQr ns hn;cases q;exact⟨G,e⟩
end Q
end
namespace PySem.W.Fast
def tw10011057086864354983:=0
def tw10012716182274366115:=0
def tw10015363805970746624:=0
def tw10016868658440293498:=0
def tw10019906744261932711:=0
def tw1006591671787209173:=0
def tw1007104609985657859:=0
def tw10078502965882734732:=0
def tw10097532940229063687:=0
def tw10099529302771194282:=0
def tw10152052631714806393:=0
def tw10193640874442448846:=0
def tw10194573507461195111:=0
def tw10221224385438853527:=0
def tw1024093315142879352:=0
def tw10345629248788002658:=0
def tw10355554490228255633:=0
def tw10376199199172151214:=0
def tw10392374585899685122:=0
def tw1039959749903154127:=0
def tw10432327922093819558:=0
def tw10449509487971118348:=0
def tw10477054949716886328:=0
def tw10496806184105294351:=0
def tw10506164136547588548:=0
def tw10579698522333382076:=0
def tw10626013736747400487:=0
def tw10627213308682586155:=0
def tw10644268592706096385:=0
def tw1064635401777289915:=0
def tw10685264715765697407:=0
def tw10689855832338522632:=0
def tw10691311676630252949:=0
def tw10751241093042457362:=0
def tw10826457096634135268:=0
def tw10832733141556090299:=0
def tw10849377229481156860:=0
def tw10863470944287599066:=0
def tw10869684989840530759:=0
def tw10873726212482506575:=0
def tw10915735014416131638:=0
def tw10928001211233860838:=0
def tw10935390881520742256:=0
def tw10941296386899413655:=0
def tw10947596691669487606:=0
def tw10981654610971215655:=0
def tw11007925345066693674:=0
def tw11048788822163368417:=0
def tw1106167642508600664:=0
def tw110623162729823265:=0
def tw11065782420912968762:=0
def tw11138757527463105800:=0
def tw11177044506787376599:=0
def tw11214285002375325126:=0
def tw11225598642826714113:=0
def tw11229546329542503810:=0
def tw11263699568054841649:=0
def tw11287010049931523294:=0
def tw11322139111625106766:=0
def tw11344217704612266961:=0
def tw11387055291467648188:=0
def tw11391019276930340829:=0
def tw11399993278230445998:=0
def tw11424132634082093153:=0
def tw11465181518579841854:=0
def tw1156721961461877403:=0
def tw11572982149576275488:=0
def tw11583620611385006999:=0
def tw11584692110892300475:=0
def tw11586214053082122860:=0
def tw11636422054208536915:=0
def tw11655552220100779083:=0
def tw11663266281305594272:=0
def tw11671408794428026887:=0
def tw11742743137234910033:=0
def tw11814638158611013310:=0
def tw11824342140110403638:=0
def tw11834257559059487931:=0
def tw11867537799075337477:=0
def tw11898959175398338572:=0
def tw1190384996793103807:=0
def tw11932840856631710690:=0
def tw11939119957972143649:=0
def tw11946681806953469179:=0
def tw12043043309591492598:=0
def tw12093258091419880673:=0
def tw12125765383632408964:=0
def tw12146218474041927332:=0
def tw12146262803669196129:=0
def tw12153866003471451717:=0
def tw12168984376801768624:=0
def tw12229654139731146373:=0
def tw12232473110880295813:=0
def tw12264328112009368847:=0
def tw12299871613100648755:=0
def tw12304767623098296908:=0
def tw12321697575837745735:=0
def tw12376002858885044938:=0
def tw12382051630402225647:=0
def tw1248069088441334459:=0
def tw12486315134530410974:=0
def tw12551192733896623762:=0
def tw12556950759092416532:=0
def tw12592794439978055638:=0
def tw12606302293746393324:=0
def tw12672166207723559710:=0
def tw12684898573637531646:=0
def tw12691304129058447866:=0
def tw12716913827786337525:=0
def tw12726619936843783326:=0
def tw12755830339601511155:=0
def tw12778311728456748879:=0
def tw12803002604174179751:=0
def tw12846285232425740587:=0
def tw12851643809374123042:=0
def tw12926554675046877027:=0
def tw12978837911196223948:=0
def tw13023157324623069468:=0
def tw13035913787620939926:=0
def tw13089168044022557935:=0
def tw1309351184408685518:=0
def tw13118402795223178709:=0
def tw13127520088099085697:=0
def tw13127781862781141053:=0
def tw13165220282240976679:=0
def tw13168475058142340140:=0
def tw13206799735534508216:=0
def tw13237353827648674847:=0
def tw13248972577388681190:=0
def tw13256438348127985968:=0
def tw13277532431088700868:=0
def tw13329614986643833065:=0
def tw13352107694211798329:=0
def tw13392674001367730529:=0
def tw13506535846732296005:=0
def tw1351958770237526166:=0
def tw1363532809778033332:=0
def tw13758266321767859312:=0
def tw13764476994283145701:=0
def tw13850722368952138696:=0
def tw13899190669403421279:=0
def tw13983707770679373520:=0
def tw14032624001240116582:=0
def tw14077647564650990311:=0
def tw14078060277864500014:=0
def tw14097973732775579093:=0
def tw14101428353522603525:=0
def tw14108054448367094745:=0
def tw14122210910705099995:=0
def tw14155918671654934649:=0
def tw14167484454718385235:=0
def tw14181969903904115872:=0
def tw1418558195316540332:=0
def tw14269003068577261908:=0
def tw1427147061635403746:=0
def tw14334429762162800370:=0
def tw14352009217441993252:=0
def tw1440180434999027542:=0
def tw14410038059416291988:=0
def tw14418380304638296144:=0
def tw1443133099005252460:=0
def tw14433268649588866024:=0
def tw14464384066125726034:=0
def tw14465613901238272371:=0
def tw14472486936689451394:=0
def tw14529414859634764448:=0
def tw14555199172779716921:=0
def tw14580008906963994265:=0
def tw14696655271980652768:=0
def tw1475161475011893616:=0
def tw14850080508840532978:=0
def tw1486563778336975379:=0
def tw1487984091427575050:=0
def tw14884687486310270122:=0
def tw14891563808290193840:=0
def tw14924732710956648774:=0
def tw14928821766650829165:=0
def tw14975938064664906382:=0
def tw1500693543695780533:=0
def tw15006984798389694544:=0
def tw15018023744603987554:=0
def tw15054746448132372794:=0
def tw15055446226999184741:=0
def tw15085660643082696973:=0
def tw15118188054175209226:=0
def tw15134514367313295918:=0
def tw15146990322731571808:=0
def tw15174218458942786537:=0
def tw15177221030474360987:=0
def tw15189073662931341108:=0
def tw15197257318138418454:=0
def tw15201950483884102465:=0
def tw15217931177951659902:=0
def tw15220731609426226671:=0
def tw1522744588688335527:=0
def tw15248353650575022362:=0
def tw15309637099029220899:=0
def tw15344673985106798954:=0
def tw15351037795938823706:=0
def tw15397018069819197999:=0
def tw15402235758710935870:=0
def tw1540488252666184817:=0
def tw15424461407781326955:=0
def tw15445165722330914838:=0
def tw15500925410903775583:=0
def tw15517956379327386765:=0
def tw15668038655235484292:=0
def tw15675749409866692409:=0
def tw15716139611744190204:=0
def tw15717590719770243391:=0
def tw15725183713897160183:=0
def tw15725936273873503073:=0
def tw15726589353334842927:=0
def tw15741996198390738333:=0
def tw15745659453494845092:=0
def tw15750451831168361269:=0
def tw15791412753735983406:=0
def tw15813106060025517365:=0
def tw15832548003543374554:=0
def tw15847540818448324177:=0
def tw1586186008371851460:=0
def tw15950171525909457903:=0
def tw15958696835691151079:=0
def tw1596789418388437878:=0
def tw16018111712980328143:=0
def tw16044896194971372938:=0
def tw16104864061822692435:=0
def tw16115968859663093240:=0
def tw16118180529540200232:=0
def tw16138660799511305976:=0
def tw16186410163975492940:=0
def tw16198798979071461127:=0
def tw16237175907814473892:=0
def tw16275492709858384903:=0
def tw16300099348410367187:=0
def tw1632439680431527653:=0
def tw16334420536993061404:=0
def tw16363539427249240907:=0
def tw16392987760886350644:=0
def tw16451667732239745208:=0
def tw16469297014444584202:=0
def tw16503234515555912330:=0
def tw16508738292483542785:=0
def tw16532095552451813729:=0
def tw16560933587428842098:=0
def tw1658242155030539248:=0
def tw16585206352928083940:=0
def tw16599982095302622749:=0
def tw16615611504349272684:=0
def tw1662118538147943971:=0
def tw16633011324848802669:=0
def tw16665871703400516187:=0
def tw16710146232496597418:=0
def tw16724111659322415534:=0
def tw16754271763593587515:=0
def tw16790361085013438546:=0
def tw16805752658166290373:=0
def tw16821752833129649780:=0
def tw16924706806606926928:=0
def tw16933678172863114529:=0
def tw16978820626961648739:=0
def tw17006785905375762743:=0
def tw1704822987023192832:=0
def tw17070148938208263458:=0
def tw17084879103514371678:=0
def tw17091586536097527605:=0
def tw17092393285175881183:=0
def tw17109398406145206177:=0
def tw17177176617541355269:=0
def tw17178190440950042736:=0
def tw17180000769172256568:=0
def tw17210351277155408535:=0
def tw17215935112344423391:=0
def tw17242866340962544240:=0
def tw17246453800004105639:=0
def tw17263593044657544255:=0
def tw17272981192939588505:=0
def tw17291319462586180765:=0
def tw17300712754130273022:=0
def tw17322374963289725859:=0
def tw17359281962070383419:=0
def tw17407548462770164785:=0
def tw17464708662976800978:=0
def tw17481961189604485957:=0
def tw17514445436315007427:=0
def tw17534940633092106609:=0
def tw17557627866748673996:=0
def tw17590145860867978495:=0
def tw17606946496081073349:=0
def tw17643214952222923671:=0
def tw17666589595019816894:=0
def tw17696293689125196655:=0
def tw1770400976591849593:=0
def tw177547702392998752:=0
def tw17769514520870453641:=0
def tw1778795211291881880:=0
def tw1783542085490605577:=0
def tw17854438332839711329:=0
def tw17865365355925490349:=0
def tw17867112025445891621:=0
def tw1786717754606000430:=0
def tw17873079240197174813:=0
def tw17965852118154752146:=0
def tw17965947296865894611:=0
def tw17967637292011239373:=0
def tw1799527383452124544:=0
def tw18022421408714786126:=0
def tw18025112695611423581:=0
def tw18058378049561508271:=0
def tw18076484666222601509:=0
def tw18083458838510339346:=0
def tw1809108993655106271:=0
def tw18160788635721633350:=0
def tw18167727200517779591:=0
def tw18173865230505611063:=0
def tw18195270692502486722:=0
def tw18207386375665883088:=0
def tw18219735446993520876:=0
def tw1822303523157029780:=0
def tw18248587282839550437:=0
def tw18252677430942870780:=0
def tw18281862089329723046:=0
def tw18313075020040629617:=0
def tw18319801983479010442:=0
def tw18331753324961198172:=0
def tw18344892828793730636:=0
def tw18395897155752206887:=0
def tw18397212887182196556:=0
def tw1841395815522995:=0
def tw18434976892887914883:=0
def tw1853967127623518823:=0
def tw1876806157805519490:=0
def tw1957579832620022001:=0
def tw1972880387383711620:=0
def tw1990435290992965284:=0
def tw2034334840204630793:=0
def tw2039616306035966892:=0
def tw2133217263026761898:=0
def tw2218159879972572747:=0
def tw2308723071388012127:=0
def tw2315453846076785252:=0
def tw2318875021127339163:=0
def tw2323209382581936668:=0
def tw2324995955674427383:=0
def tw2338935659679146401:=0
def tw2373417396269077775:=0
def tw2439142434519700579:=0
def tw2451906108641824066:=0
def tw2460920350231398669:=0
def tw2467105721319452891:=0
def tw2480673727582250987:=0
def tw2485454652911972608:=0
def tw2509471184513054033:=0
def tw2635695687987342098:=0
def tw2685742893531907673:=0
def tw2698718361122893874:=0
def tw2715211250982063973:=0
def tw2723523231600999500:=0
def tw2832468975388941097:=0
def tw2844396477442601628:=0
def tw2849142266477876992:=0
def tw2853273686840477301:=0
def tw2922413713653402546:=0
def tw2937972930933667070:=0
def tw2944244724128791266:=0
def tw2979009375128510691:=0
def tw2994523072169883928:=0
def tw3011879548898512925:=0
def tw3016930389210800176:=0
def tw3042691376546234835:=0
def tw3114962602218578811:=0
def tw3122386337909653186:=0
def tw3126714048913208684:=0
def tw3174541854815277025:=0
def tw3177354987086817201:=0
def tw3355642497295697083:=0
def tw3372595153285502377:=0
def tw3377143623636970008:=0
def tw3418448017135299452:=0
def tw34379783213952468:=0
def tw3464794521361698352:=0
def tw3474898210690751273:=0
def tw3481470099000539671:=0
def tw3500951120921229949:=0
def tw3512623676990072140:=0
def tw3530001894057413384:=0
def tw3555083788237493004:=0
def tw3563399114639477714:=0
def tw3651778138369902671:=0
def tw3653939261035635092:=0
def tw3692133474299931708:=0
def tw3727221921804141417:=0
def tw3738549220556389774:=0
def tw3745472438458512931:=0
def tw3772696545927489862:=0
def tw3888182359830500190:=0
def tw3926969181792804384:=0
def tw3956772167663134513:=0
def tw3976881480885444276:=0
def tw3990484754482503735:=0
def tw4009148425913782420:=0
def tw4032099437415228280:=0
def tw4033625121625935746:=0
def tw4107664102232432522:=0
def tw4132505746046872813:=0
def tw4152362709161211979:=0
def tw4197812093915709948:=0
def tw4233671037064668396:=0
def tw4236326495993453736:=0
def tw4246333095078384634:=0
def tw4251249411554109578:=0
def tw4282869167051060657:=0
def tw4302432593541865808:=0
def tw4380092994759124024:=0
def tw439867300837358978:=0
def tw4399495979122241854:=0
def tw4447030245036069144:=0
def tw4474776702311964381:=0
def tw4504298388889377346:=0
def tw4517868767643103748:=0
def tw4624736685616099442:=0
def tw4635393707901101030:=0
def tw4696571410520171023:=0
def tw4740051914156399475:=0
def tw4745113768903415247:=0
def tw4770767151567664981:=0
def tw4834261634280831951:=0
def tw4852529661413320442:=0
def tw4881662185663376328:=0
def tw491658414886113630:=0
def tw4923076331052677097:=0
def tw4961709782579135859:=0
def tw4973427832393100333:=0
def tw5031427913702663722:=0
def tw5061825336410470154:=0
def tw5067385446067364399:=0
def tw5103788029271584386:=0
def tw5153550537796713087:=0
def tw5194579558143634904:=0
def tw5212053435176388846:=0
def tw5236781295799893126:=0
def tw5305866279160024568:=0
def tw5310178372649257086:=0
def tw5317606707723996071:=0
def tw5319632550192680647:=0
def tw540977006695445751:=0
def tw5427369243149113641:=0
def tw5456877584620930402:=0
def tw5465869899490848662:=0
def tw5495191133201351929:=0
def tw552004013854954472:=0
def tw5520667697285722507:=0
def tw5532135994260492816:=0
def tw5545264801570590683:=0
def tw5545570895457995839:=0
def tw5575725985807014630:=0
def tw5587983454522502971:=0
def tw560340897978462648:=0
def tw5697109837480665158:=0
def tw570497318672598016:=0
def tw5722897739127869852:=0
def tw5785514610958489366:=0
def tw5799237373443340448:=0
def tw5811034857793306220:=0
def tw5823863047162105094:=0
def tw5828045001519761590:=0
def tw5870095086441651602:=0
def tw5879231502549647112:=0
def tw5894863327283878433:=0
def tw5907726615009917276:=0
def tw5933456066157082914:=0
def tw5945071140171345276:=0
def tw5984179663483235999:=0
def tw599528339690926795:=0
def tw6005167820023059273:=0
def tw6056372055581540291:=0
def tw6080933668528794183:=0
def tw6126862163233885651:=0
def tw6170403655326691941:=0
def tw6202197469367802799:=0
def tw6206607818274608391:=0
def tw6222418521984690083:=0
def tw6293300246743462326:=0
def tw6308330358467392699:=0
def tw6342556902974051413:=0
def tw6343035451036437523:=0
def tw6347921345958591483:=0
def tw6372995957628445231:=0
def tw6437953927393199313:=0
def tw6467241851767176878:=0
def tw6491401099092503190:=0
def tw6496017379557037170:=0
def tw6508731335876551330:=0
def tw6543616247234871375:=0
def tw6593909311278077962:=0
def tw6595876432852086158:=0
def tw6607948444116037921:=0
def tw6659986519974949920:=0
def tw6703454014130220137:=0
def tw675264009538647986:=0
def tw6756591845465409317:=0
def tw6762032527143478686:=0
def tw6786499328976059392:=0
def tw6791558502132378979:=0
def tw6801542698956005426:=0
def tw6863878145545925422:=0
def tw6880047140454915074:=0
def tw6914970273718929661:=0
def tw7018353877453228551:=0
def tw7145449007142166247:=0
def tw7147670004242618084:=0
def tw7149496325548209861:=0
def tw7152160537041864254:=0
def tw716306261929131575:=0
def tw7180481655855137794:=0
def tw7227895058145196536:=0
def tw7256453164433249183:=0
def tw7272123178777466617:=0
def tw7319806896294966320:=0
def tw7367600007585789102:=0
def tw7383856863289998134:=0
def tw7386631981671666216:=0
def tw7421194212623765110:=0
def tw7434452047390972385:=0
def tw7453191424239067842:=0
def tw7474971326770689860:=0
def tw7480906398691382775:=0
def tw7519037272601701919:=0
def tw752469533201896467:=0
def tw7554498090739287878:=0
def tw7563200008643631151:=0
def tw758124478174016295:=0
def tw7663025119196116698:=0
def tw7793039607078221180:=0
def tw7802869670470973335:=0
def tw7844158872864806091:=0
def tw7845967976674312003:=0
def tw7852675405790909197:=0
def tw789047679547181187:=0
def tw7891087239034192050:=0
def tw7926677456222524916:=0
def tw7960604414585983572:=0
def tw7975174673572536134:=0
def tw7997325866179829565:=0
def tw8055751225832014597:=0
def tw8058270973373357879:=0
def tw8086861487101784996:=0
def tw809612691037998282:=0
def tw8106285669041952181:=0
def tw8157734767343218414:=0
def tw8162450363821575823:=0
def tw8164595512225312876:=0
def tw8171519246705147259:=0
def tw8223990123813539872:=0
def tw8228853851320236110:=0
def tw8270088450803006880:=0
def tw8292570715319113371:=0
def tw835589777974743808:=0
def tw8409219602722632024:=0
def tw8424537185619864615:=0
def tw8450441208383490918:=0
def tw845749908952922294:=0
def tw8464123006501602928:=0
def tw8545890860167196518:=0
def tw854850633692197201:=0
def tw8642788916765477976:=0
def tw8662502337171456796:=0
def tw8679485619845653693:=0
def tw8687697915813586976:=0
def tw8691526762939685552:=0
def tw8732070577372673019:=0
def tw8819816769037938992:=0
def tw8846073828859987750:=0
def tw8853817296171395745:=0
def tw8871959449712947366:=0
def tw8933970960630417635:=0
def tw8978197265540219565:=0
def tw9048869404153496902:=0
def tw9085279849082268790:=0
def tw9089277967437234910:=0
def tw9110733970693428568:=0
def tw9114386055760273389:=0
def tw9144440007428070370:=0
def tw9269965102870705723:=0
def tw9283380243778318982:=0
def tw929747443997277513:=0
def tw9345271852931375260:=0
def tw9373541287480143784:=0
def tw9487742886041524484:=0
def tw956193703340067747:=0
def tw9662932011924814213:=0
def tw969363726696981769:=0
def tw9719958251023884762:=0
def tw9788481487516475362:=0
def tw9824042534251852561:=0
def tw983822975305504079:=0
def tw9875865358232369553:=0
def tw9903689218997284407:=0
def tw991859606746922311:=0
def tw9934328891694423065:=0
def tw9955871096805693915:=0
def tw9970131346830198582:=0
def tw9996162046372922186:=0
end PySem.W.Fast
open PySem PySem.W PyProof.Rows
set_option maxRecDepth 100000 in
set_option maxHeartbeats 0 in
theorem PySem.Challenge.cw_coverfill_k36_layers_by_number_holds : PySem.Challenge.rw_coverfill_k36_layers_by_number.Holds := by
  w_on; o_law; k_head; (case hw => w_witness2)
  k_fill
  refine DL.walkM (k := 69) (F := Q.FM48) (l := PySem.Challenge.rw_coverfill_k36_layers_by_number) rfl rfl (by decide +kernel) (λ_ => rfl) ⟨rfl, by decide, by decide⟩ [(("thinned_covers" : PySem.Str), 335, 331), (("Fill.films" : PySem.Str), 397, 393)] ?hrec ?htl ?htk ?hnd ?hnt (λw h Y => PySem.W.km_in_of Y) ?F Q.law_true
  case hrec =>
    intro w h Y t ht
    simp only[List.mem_cons, List.not_mem_nil, or_false] at ht
    rcases ht with rfl | rfl
    · exact⟨PySem.W.codeHd_of_K (PySem.W.km_in_of Y) (by kernel_rfl), PySem.W.km_tabs_of Y _ (by decide)⟩
    · exact⟨PySem.W.codeHd_of_K (PySem.W.km_in_of Y) (by kernel_rfl), PySem.W.km_tabs_of Y _ (by decide)⟩
  case htl => exact λ_ => DL.tabs_of (by kernel_rfl) (by kernel_rfl) (by kernel_rfl) (by kernel_rfl)
  case htk => exact by decide
  case hnd => exact by decide
  case hnt => exact λ_ => by kernel_rfl
  case F =>
    intro w mg fa h KX G hmg
    refine' Q.all_mk KX G hmg (lc0 := 335) (lp0 := 331) (by kernel_rfl) (lc1 := 397) (lp1 := 393) (by kernel_rfl) (DL.ft ?_ ?_ ?_ ?_) (DL.ft ?_ ?_ ?_ ?_) (DL.ft ?_ ?_ ?_ ?_) (DL.ft ?_ ?_ ?_ ?_) (DL.ft ?_ ?_ ?_ ?_) (DL.ft ?_ ?_ ?_ ?_) (DL.ft ?_ ?_ ?_ ?_) (DL.ft ?_ ?_ ?_ ?_) (DL.ft ?_ ?_ ?_ ?_) (DL.ft ?_ ?_ ?_ ?_) (DL.ft ?_ ?_ ?_ ?_) (DL.ft ?_ ?_ ?_ ?_) (DL.ft ?_ ?_ ?_ ?_) (DL.ft ?_ ?_ ?_ ?_) (DL.ft ?_ ?_ ?_ ?_) (DL.ft ?_ ?_ ?_ ?_) (DL.ft ?_ ?_ ?_ ?_) (DL.ft ?_ ?_ ?_ ?_) (DL.ft ?_ ?_ ?_ ?_) (DL.ft ?_ ?_ ?_ ?_) (DL.ft ?_ ?_ ?_ ?_) (DL.ft ?_ ?_ ?_ ?_) (DL.ft ?_ ?_ ?_ ?_) (DL.ft ?_ ?_ ?_ ?_) (DL.ft ?_ ?_ ?_ ?_) (DL.ft ?_ ?_ ?_ ?_) (DL.ft ?_ ?_ ?_ ?_) (DL.ft ?_ ?_ ?_ ?_) (DL.ft ?_ ?_ ?_ ?_) (DL.ft ?_ ?_ ?_ ?_) (DL.ft ?_ ?_ ?_ ?_) (DL.ft ?_ ?_ ?_ ?_) (DL.ft ?_ ?_ ?_ ?_) (DL.ft ?_ ?_ ?_ ?_) (DL.ft ?_ ?_ ?_ ?_) (DL.ft ?_ ?_ ?_ ?_) (DL.ft ?_ ?_ ?_ ?_) (DL.ft ?_ ?_ ?_ ?_) (DL.ft ?_ ?_ ?_ ?_) (DL.ft ?_ ?_ ?_ ?_) (DL.ft ?_ ?_ ?_ ?_) (DL.ft ?_ ?_ ?_ ?_) (DL.ft ?_ ?_ ?_ ?_) (DL.ft ?_ ?_ ?_ ?_) (DL.ft ?_ ?_ ?_ ?_) (DL.ft ?_ ?_ ?_ ?_) (DL.ft ?_ ?_ ?_ ?_) (DL.ft ?_ ?_ ?_ ?_) ?a48 ?l48 ?c48 ?k48 ?z0 ?z1 ?z2 ?z3 ?z4 ?z5 ?z6 ?z7 ?z8 ?z9 ?z10 ?ca0 ?cl0 ?cv0 ?ca1 ?cl1 ?cv1 ?ca2 ?cl2 ?cv2 (DL.uc ?_ ?_ ?_ ?_ ?_ ?_ ?_ (DL.nfc ?_ (DL.nfc ?_ (DL.nfc ?_ DL.nf0)))) (DL.uc ?_ ?_ ?_ ?_ ?_ ?_ ?_ (DL.nfc ?_ (DL.nfc ?_ DL.nf0))) (DL.uc ?_ ?_ ?_ ?_ ?_ ?_ ?_ (DL.nfc ?_ (DL.nfc ?_ (DL.nfc ?_ (DL.nfc ?_ (DL.nfc ?_ (DL.nfc ?_ (DL.nfc ?_ (DL.nfc ?_ (DL.nfc ?_ DL.nf0)))))))))) ?m_q0 ?i_q0 ?l_q0 ?c_q0 ?k_q0 ?lT_q0 (DL.fq ?_ ?_ ?_ ?_ ?_) ?m_q2 ?i_q2 ?l_q2 ?c_q2 ?k_q2 ?lT_q2 (DL.fq ?_ ?_ ?_ ?_ ?_) ?m_q4 ?i_q4 ?l_q4 ?c_q4 ?k_q4 ?lT_q4 (DL.fq ?_ ?_ ?_ ?_ ?_) (DL.fq ?_ ?_ ?_ ?_ ?_) (DL.fq ?_ ?_ ?_ ?_ ?_) (DL.fq ?_ ?_ ?_ ?_ ?_) (DL.fq ?_ ?_ ?_ ?_ ?_) (DL.fq ?_ ?_ ?_ ?_ ?_) (DL.fq ?_ ?_ ?_ ?_ ?_) (DL.fq ?_ ?_ ?_ ?_ ?_)
    all_goals try k_is
    all_goals try k_is
    all_goals first | rfl | decide +kernel | k_exc | kit_is | kts_exm

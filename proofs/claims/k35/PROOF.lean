import PyProof.Rows.All
import Wide.All
import OpenK.AllK
import Wide.FinOn
import Lean
import PySem.Challenge.RW_coverfill_k35_whole_group_of_fills
set_option Elab.async false
set_option linter.all false
set_option maxRecDepth 100000
set_option maxHeartbeats 4000000
set_option compiler.extract_closed false
theorem zzf {p:Prop}(h:false=true):p:=nomatch h
theorem zzb (h:Nat.ble a b=true):a<=b:=Nat.le_of_ble_eq_true h
theorem zzg {T:Type _}{l:List T}{i:Nat}{a:T}(h:l[i]?=some a):∃ w:i<l.length,l[i]=a:=List.getElem?_eq_some_iff.mp h
noncomputable section
open Bool (and_eq_true)
open PySem.Heap (lt_size get?_push_of_some get?_push_size)
open Nat (le_refl le_trans ne_of_lt lt_irrefl zero_le lt_of_lt_of_le mul_le_mul_right sub_self)
open Option (map_eq_some_iff)
open Classical (choose_spec)
open Int (toNat_natCast)
open List (all_eq_true append_assoc append_nil cons_append drop_eq_nil_of_le ext_getElem? filter_cons flatten_cons forIn_cons getD_eq_getElem?_getD getElem?_append_left getElem?_append_right getElem?_eq_getElem getElem?_eq_none getElem?_map getElem?_range getElem?_replicate getElem?_set_ne getElem?_set_self length_append length_cons length_drop length_map length_range length_replicate length_set length_singleton length_take lookup_cons map_append map_congr_left map_cons map_map map_nil mem_append mem_append_right mem_cons mem_cons_of_mem mem_cons_self mem_filter mem_map mem_of_getElem? mem_range mem_singleton nil_append nodup_cons not_mem_nil of_mem_zip range_succ replicate_succ reverse_cons set_append_right size_toArray take_of_length_le)
def qx:=@Option.bind_some
def qy:=@length_map
def qj:=@decide_eq_true_eq
def qQ:=@length_append
def qX:=@PySem.wpAny_bind
def qY:=@Bool.false_ne_true
def qJ:=@mem_cons_of_mem
def q0:=@append_assoc
def xq:=@mem_cons_self
def xy:=@PySem.wpAny_pure
def xj:=@mem_append_right
def xQ:=@size_toArray
def xX:=@Option.some.inj
def xY:=@lt_of_lt_of_le
def xJ:=@length_cons
def x8:=@map_append
def x9:=@and_eq_true
def yq:=@map_eq_some_iff
section
namespace L2
open PySem Spec PyProof.Rows
abbrev Key:=Sum Int Str
noncomputable def zR0:Key->Value->Bool
 | .inl k,v=>Value.isInt k v
 | .inr x,v=>Value.isStrOf x v
noncomputable def keyH (w:World):Key->Int
 | .inl k=>hashInt k
 | .inr x=>hashStr w x
theorem zAl:∀ {k:Key} {v:Value},zR0 k v=true->(∃ i t,k=Sum.inl i/\v=Value.int i t)\/(∃ x t,k=Sum.inr x/\v=Value.str x t)
 | .inl i,v,h=>by
  obtain⟨t,e⟩:=Value.isInt_shape (k:=i) (v:=v) h;exact .inl ⟨i,t,rfl,e⟩
 | .inr x,v,h=>by
  obtain⟨t,e⟩:=Value.isStrOf_shape (x:=x) (v:=v) h;exact .inr ⟨x,t,rfl,e⟩
theorem zRz (a b:Int):decide ((Sum.inl a:Key)=Sum.inl b)=(a==b):=by grind
theorem zRw (a b:Str):decide ((Sum.inr a:Key)=Sum.inr b)=decide (a=b):=by simp
theorem zRy (a:Int)(b:Str):decide ((Sum.inl a:Key)=Sum.inr b)=false:=rfl
theorem zRx (a:Str)(b:Int):decide ((Sum.inr a:Key)=Sum.inl b)=false:=rfl
noncomputable def zJ7 (prog:Program)(w:World):PySem.KeyKind prog w Key where
 is:=zR0
 hash:=keyH w
 inj:=λv a b ha hb=>by
  rcases zAl ha with ⟨i,t,rfl,rfl⟩ | ⟨x,t,rfl,rfl⟩
  .rcases zAl hb with ⟨j,u,rfl,e⟩ | ⟨y,u,rfl,e⟩
   .injection e with e1 _;rw[e1]
   .exact nomatch e
  .rcases zAl hb with ⟨j,u,rfl,e⟩ | ⟨y,u,rfl,e⟩
   .exact nomatch e
   .injection e with e1 _;rw[e1]
 byValue:=λk v h=>by
  rcases zAl h with ⟨i,t,rfl,rfl⟩ | ⟨x,t,rfl,rfl⟩<;>rfl
 pyHash:=λhv h=>by
  rcases zAl hv with ⟨i,t,rfl,rfl⟩ | ⟨x,t,rfl,rfl⟩
  .exact wpAny_pyHash_int h
  .exact wpAny_pyHash_str h
 eqBool:=λhu hv h=>by
  rcases zAl hu with ⟨i,t,rfl,rfl⟩ | ⟨x,t,rfl,rfl⟩
  .rcases zAl hv with ⟨j,u,rfl,rfl⟩ | ⟨y,u,rfl,rfl⟩
   .rw [zRz] at h;exact wpAny_eqBool_int h
   .rw [zRy] at h;exact SeqAt.EqAt.int_str i t y u _ _ _ _ h
  .rcases zAl hv with ⟨j,u,rfl,rfl⟩ | ⟨y,u,rfl,rfl⟩
   .rw [zRx] at h;exact SeqAt.EqAt.str_int x t j u _ _ _ _ h
   .rw [zRw] at h;exact wpAny_eqBool_str h
 «strs»:=λk x t v h=>by
  rcases zAl h with ⟨i,u,rfl,e⟩ | ⟨y,u,rfl,e⟩
  .exact nomatch e
  .injection e with e1 _
   subst e1;cases v<;>rfl
end L2
namespace L2
open PySem Spec PyProof.Rows
inductive V where
 | non | bl (b:Bool) | int (i:Int) | str (x:Str) | byt (b:Array UInt8) | flt (b:UInt64) | ref (a:Addr) | ty (n:String)
 deriving DecidableEq
def RelV:V->Value->Prop
 | .non,u=>u=Value.none
 | .bl b,u=>u=Value.bool b
 | .int i,u=>∃ t,u=Value.int i t
 | .str x,u=>∃ t,u=Value.str x t
 | .byt b,u=>∃ t,u=Value.bytes b t
 | .flt b,u=>∃ t,u=Value.float b t
 | .ref a,u=>u=Value.ref a
 | .ty n,u=>u=Value.type n
abbrev Vals:List V->List Value->Prop:=Paired RelV
theorem Vals.length (r:Vals xs us):xs.length=us.length:=Paired.length r
theorem Vals.get:∀ {xs:List V} {us:List Value} {i:Nat} {x:V},Vals xs us->xs[i]?=some x->∃ u,us[i]?=some u/\RelV x u
 | _,_,_,_,.nil,e=>by simp at e
 | _,_,0,_,.cons r _,e=>by simp at e;subst e;exact⟨_,rfl,r⟩
 | _,_,i+1,x,.cons _ t,e=>by
  obtain⟨u,h1,h2⟩:=Vals.get (i:=i) (x:=x) t (by simpa using e);exact⟨u,by simpa using h1,h2⟩
theorem Vals.set (r:RelV x u):∀ {xs:List V} {us:List Value} (i:Nat),Vals xs us->Vals (xs.set i x) (us.set i u)
 | _,_,_,.nil=>.nil
 | _,_,0,.cons _ t=>.cons r t
 | _,_,i+1,.cons q t=>.cons q (Vals.set r i t)
theorem Vals.append:∀ {xs ys:List V} {us ws:List Value},Vals xs us->Vals ys ws->Vals (xs++ys) (us++ws)
 | _,_,_,_,.nil,s=>s
 | _,_,_,_,.cons r t,s=>.cons r (Vals.append t s)
theorem Vals.take:∀ {xs:List V} {us:List Value} (n:Nat),Vals xs us->Vals (xs.take n) (us.take n)
 | _,_,0,_=>.nil
 | _,_,_+1,.nil=>.nil
 | _,_,n+1,.cons r t=>.cons r (Vals.take n t)
theorem Vals.drop:∀ {xs:List V} {us:List Value} (n:Nat),Vals xs us->Vals (xs.drop n) (us.drop n)
 | _,_,0,r=>r
 | _,_,_+1,.nil=>.nil
 | _,_,n+1,.cons _ t=>Vals.drop n t
def RelO:Option V->Option Value->Prop
 | some v,some u=>RelV v u
 | none,none=>True
 | _,_=>False
def KV {a:Type}:List (a×V)->List (a×Value)->Prop:=Paired λ(p:a×V) (q:a×Value)=>p.1=q.1/\RelV p.2 q.2
noncomputable def kV:Key->V
 | .inl i=>.int i
 | .inr x=>.str x
set_option genSizeOf false in
set_option genInjectivity false in
inductive HO where
 /-- a list -/
 | lst (xs:List V)
 /-- a tuple (never changes) -/
 | tup (xs:List V)
 /-- a dict whose keys are ints and texts;one whose keys are tuples of ints and texts (the empty one is both) -/
 | dK (kvs:List (Key×V)) | dT (kvs:List (List Key×V))
 /-- a set of ints: its members,its size -/
 | set (S:Int->Bool) (n:Nat)
 /-- an instance of the class at C,its dict at dx,its attributes -/
 | ins (C dx:Addr) (fs:List (Str×V))
 /-- the dict of the instance at x -/
 | own (x:Addr)
 /-- the dict of an exception -/
 | xd (fs:List (Str×V))
 /-- a bound method,f of x -/
 | met (f x:Addr)
 /-- a range object lo,lo+1,.. below hi -/
 | rng (lo hi:Int)
 /-- a thing that is known to the object (the script;a dict while a loop walks it): read,never written while it is so -/
 | frz (o:Obj) (u:HO)
 /-- a code object's table: the codes of the defs made within,all of this name -/
 | tbl (q:Str)
 /-- any other thing,by what is true of its one object (a def of one's own: SetO a S n:=HO.ext λh=>..) -/
 | ext (L:Heap->Prop)
abbrev Hp:=Addr->Option HO
noncomputable def upd (H:Hp)(a:Addr)(o:HO):Hp:=λb=>if b=a then some o else H b
theorem zAP :upd H a o a=some o:=by unfold upd;rw[if_pos rfl]
theorem zAN (h:b≠a):upd H a o b=H b:=by unfold upd;rw[if_neg h]
theorem zAg {H:Hp}(h:H a=some o)(h':H b=none):a≠b:=by grind
section
variable (P:Program)(w:World)
def zLl (o:Obj)(q:Str):Prop:=∃ vs t,o.data=.fields vs/\vs[1]?=some (.str q t)
def zCP (H:Hp)(h:Heap)(a:Addr):HO->Prop
 | .lst xs=>xs.length<=sizeLine/\∃ (its:List Value) (n:Nat),Vals xs its/\h.get? a=some { cls:=.type "list",data:=.seq its.toArray n }
 | .tup xs=>xs.length<=sizeLine/\∃ its:List Value,Vals xs its/\IsTup h a its.toArray
 | .dK kvs=>kvs.length<=sizeLine/\(a==sysModules)=false/\∃ vs,KV kvs vs/\h.DictOf (zJ7 P w) a vs
 | .dT kvs=>kvs.length<=sizeLine/\(a==sysModules)=false/\∃ xs:List (List Key×Addr×Value),
   Paired (λ(p:List Key×V) (q:List Key×Addr×Value)=>p.1=q.1/\H q.2.1=some (.tup (p.1.map kV))/\RelV p.2 q.2.2) kvs xs /\
   ∃ o es ep,h.get? a=some o/\o.ExactDict/\o.data=.dict es ep/\es.toList=xs.map (entryOfKey (tupleKind (zJ7 P w)))/\(xs.map (·.1)).Nodup
 | .set S n=>h.SetOf (intKind P w) a S n
 | .ins C dx fs=>H dx=some (.own a)/\fs.length<=1000/\dx≠a/\h.get? a=some (W.instObj C dx) /\
   ∃ mA,h.Ns1 dx mA/\(∀ f,RelO (fs.lookup f) (mA f))/\PySem.Within mA (fs.map (·.1))
 | .own _=>∃ o,h.get? a=some o
 | .xd fs=>∃ mA,h.Ns1 a mA/\∀ f,RelO (fs.lookup f) (mA f)
 | .rng lo hi=>∃ t u v,h.get? a=some { cls:=.type "range",data:=.fields #[.int lo t,.int hi u,.int 1 v] }
 | .frz o u=>h.get? a=some o/\zCP H h a u
 | .tbl q=>∃ ps:Array Value,h.get? a=some { cls:=.none,data:=.fields ps }/\TriplesOk ps.toList/\∀ pos cv,codeAmong pos ps.toList=some cv->∃ c oc u,cv=.ref c/\H c=some (.frz oc u)/\zLl oc q
 | .met f x=>h.get? a=some (W.methodObj (.ref f) (.ref x))
 | .ext L=>L h/\(∃ o,h.get? a=some o)/\∀ h1 h2:Heap,L h1->(∀ o,h1.get? a=some o->h2.get? a=some o)->L h2
def HOk (H:Hp)(h:Heap):Prop:=∀ a o,H a=some o->zCP P w H h a o
end
section
variable {P:Program}{w:World}{H H':Hp}{h h':Heap}{a:Addr}{o:HO}
theorem zCP.lt (x:zCP P w H h a o):a < h.objs.size:=by
 cases o with
 | lst xs=>obtain⟨_,_,_,_,e⟩:=x;exact lt_size e
 | tup xs=>obtain⟨_,_,_,p⟩:=x;exact p.lt
 | dK kvs=>obtain⟨_,_,_,_,o,_,_,e,_⟩:=x;exact lt_size e
 | dT kvs=>obtain⟨_,_,_,_,o,_,_,e,_⟩:=x;exact lt_size e
 | set S n=>obtain⟨o,_,_,_,e,_⟩:=x;exact lt_size e
 | ins C dx fs=>obtain⟨_,_,_,e,_⟩:=x;exact lt_size e
 | own y=>obtain⟨_,e⟩:=x;exact lt_size e
 | xd fs=>obtain⟨_,⟨_,_,_,e,_⟩,_⟩:=x;exact lt_size e
 | rng lo hi=>obtain⟨_,_,_,e⟩:=x;exact lt_size e
 | frz ob u=>obtain⟨e,_⟩:=x;exact lt_size e
 | tbl q=>obtain⟨ps,e,_⟩:=x;exact lt_size e
 | met f y=>exact lt_size (show h.get? a=some _ from x)
 | ext L=>obtain⟨_,⟨_,e⟩,_⟩:=x;exact lt_size e
theorem Paired.mapP {T M:Type}{F G:T->M->Prop}:∀ {Z5:List T} {Z6:List M},Paired F Z5 Z6->(∀ a b,F a b->G a b)->Paired G Z5 Z6
 | _,_,.nil,_=>.nil
 | _,_,.cons r t,f=>.cons (f _ _ r) (Paired.mapP t f)
theorem zCP.stay (x:zCP P w H h a o)(k:∀ b u,(b=a\/H b=some (.own a))->h.get? b=some u->h'.get? b=some u)
  (ho:∀ b,H b=some (.own a)->H' b=some (.own a)) (ht:∀ b xs,H b=some (.tup xs)->H' b=some (.tup xs)) (hf:∀ b ob u,H b=some (.frz ob u)->(∃ vs,ob.data=.fields vs)->H' b=some (.frz ob u)):zCP P w H' h' a o:=by
 induction o with
 | lst xs=>obtain⟨z,its,n,r,e⟩:=x;exact⟨z,its,n,r,k _ _ (.inl rfl) e⟩
 | tup xs=>obtain⟨z,its,r,ob,e,c⟩:=x;exact⟨z,its,r,ob,k _ _ (.inl rfl) e,c⟩
 | dK kvs=>obtain⟨z,y,vs,r,ob,es,ep,e,c⟩:=x;exact⟨z,y,vs,r,ob,es,ep,k _ _ (.inl rfl) e,c⟩
 | dT kvs =>
  obtain⟨z,y,xs,r,ob,es,ep,e,c⟩:=x;exact⟨z,y,xs,Paired.mapP r λp q z=>⟨z.1,ht _ _ z.2.1,z.2.2⟩,ob,es,ep,k _ _ (.inl rfl) e,c⟩
 | set S n=>obtain⟨ob,es,ep,t,e,c⟩:=x;exact⟨ob,es,ep,t,k _ _ (.inl rfl) e,c⟩
 | ins C dx fs =>
  obtain⟨d,z,ne,e,mA,⟨od,es,ep,e2,c⟩,r⟩:=x;exact⟨ho _ d,z,ne,k _ _ (.inl rfl) e,mA,⟨od,es,ep,k _ _ (.inr d) e2,c⟩,r⟩
 | own y=>obtain⟨ob,e⟩:=x;exact⟨ob,k _ _ (.inl rfl) e⟩
 | xd fs=>obtain⟨mA,⟨od,es,ep,e,c⟩,r⟩:=x;exact⟨mA,⟨od,es,ep,k _ _ (.inl rfl) e,c⟩,r⟩
 | rng lo hi=>obtain⟨t,u,v,e⟩:=x;exact⟨t,u,v,k _ _ (.inl rfl) e⟩
 | frz ob u ih=>obtain⟨e,q⟩:=x;exact⟨k _ _ (.inl rfl) e,ih q⟩
 | tbl q =>
  obtain⟨ps,e,t,c⟩:=x;exact⟨ps,k a _ (.inl rfl) e,t,λpos cv z=>let ⟨c1,oc,u,e1,e2,e3⟩:=c pos cv z;⟨c1,oc,u,e1,hf _ _ _ e2 (let ⟨vs,_,d,_⟩:=e3;⟨vs,d⟩),e3⟩⟩
 | met f y =>
  have e:=x;exact k a _ (.inl rfl) e
 | ext L=>obtain⟨p,⟨o,e⟩,st⟩:=x;exact⟨st _ _ p λo q=>k _ _ (.inl rfl) q,⟨o,k _ _ (.inl rfl) e⟩,st⟩
theorem HOk.lt (x:HOk P w H h)(e:H a=some o):a < h.objs.size:=(x a o e).lt
theorem HOk.fresh (x:HOk P w H h)(e:h.objs.size<=a):H a=none:=by
 cases q:H a with
 | none=>rfl
 | some u=>exact absurd (xY (x.lt q) e) (lt_irrefl _)
theorem HOk.kept (x:HOk P w H h)(k:∀ b u,h.get? b=some u->h'.get? b=some u):HOk P w H h':=λa o e =>
 (x a o e).stay (λb u _ q=>k b u q) (λ_ q=>q) (λ_ _ q=>q) λ_ _ _ q _=>q
theorem HOk.laid (x:HOk P w H h)(k:∀ b u,h.get? b=some u->h'.get? b=some u)(hp:h.objs.size<=a)(new:zCP P w (upd H a o) h' a o):HOk P w (upd H a o) h':=λb u e=>by
 have hn:=x.fresh hp;by_cases hb:b=a
 .subst hb;rw[zAP] at e;cases e;exact new
 .rw [zAN hb] at e;exact(x b u e).stay (λc v _ q=>k c v q) (λc q=>by rw[zAN (zAg q hn)];exact q) (λc xs q=>by rw[zAN (zAg q hn)];exact q) λc ob u q _=>by rw[zAN (zAg q hn)];exact q
end
def Rd (H:Hp)(a:Addr)(u:HO):Prop:=H a=some u\/∃ o,H a=some (.frz o u)
theorem Rd.ok (r:Rd H a u)(x:HOk P w H h):zCP P w H h a u:=by
 rcases r with r | ⟨o,r⟩
 .exact x a u r
 .obtain ⟨_,q⟩:=x a _ r;omega
def Mut:Option HO->Prop
 | some (.lst _)=>True
 | some (.dK _)=>True
 | some (.dT _)=>True
 | some (.set _ _)=>True
 | some (.ins _ _ _)=>True
 | some (.ext _)=>True
 | _=>False
section
variable {P:Program}{w:World}{H:Hp}{h h':Heap}{x e:Addr}{o':HO}
theorem HOk.write (ok:HOk P w H h)(mu:Mut (H x))(he:e=x\/H e=some (.own x))(k:∀ b u,b≠e->h.get? b=some u->h'.get? b=some u)(heo:∃ u,h'.get? e=some u)
  (new:zCP P w (upd H x o') h' x o'):HOk P w (upd H x o') h':=λb u q=>by
 have nown:∀ c y,H c=some (.own y)->c≠x:=λc y r z=>by subst z;rw[r] at mu;exact mu
 by_cases hb:b=x
 .subst hb;rw[zAP] at q;cases q;exact new
 .rw [zAN hb] at q;by_cases hbe:b=e
  .have q':H b=some (.own x):=by
    grind
   rw[q] at q';cases q';obtain⟨v,hv⟩:=heo;exact⟨v,by rw[hbe];exact hv⟩
  .refine (ok b u q).stay (λc v hc r=>k c v ?_ r) (λc r=>by rw[zAN (nown c b r)];exact r) (λc xs r=>by rw[zAN ((λc xs r z=>by subst z;rw[r] at mu;exact mu) c xs r)];exact r) λc ob v r _=>by rw[zAN ((λc ob v r z=>by subst z;rw[r] at mu;exact mu) c ob v r)];exact r
   rcases hc with rfl | hc
   .exact hbe
   .rintro rfl;rcases he with z | z
    .grind
    .rw [hc] at z;cases z;exact hb rfl
end
structure Un (fs ex:List Addr)(H H':Hp)(h h':Heap):Prop where
 keep:∀ b o,h.get? b=some o->H b=none->b∉fs->b∉ex->h'.get? b=some o
 slot:∀ b o,h.get? b=some o->H b=none->b∈fs->b∉ex->∃ sl,h'.get? b=some { o with slots:=sl }
 free:∀ b o,h.get? b=some o->H b=none->b∉ex->H' b=none
 there:∀ b o,h.get? b=some o->b∉ex->∃ o',h'.get? b=some o'
 tups:∀ b xs,H b=some (.tup xs)->H' b=some (.tup xs)
 frzs:∀ b o u,H b=some (.frz o u)->H' b=some (.frz o u)
 tbls:∀ b q,H b=some (.tbl q)->H' b=some (.tbl q)
section
variable {fs fs' ex ex':List Addr}{H H1 H2:Hp}{h h1 h2 h':Heap}{a x e:Addr}{o:HO}
theorem Un.any (u:Un fs ex H H1 h h1)(q:h.get? b=some ob)(n:H b=none)(hx:b∉ex):∃ sl,h1.get? b=some { ob with slots:=sl }:=by
 by_cases hb:b∈fs
 .exact u.slot b ob q n hb hx
 .exact ⟨ob.slots,u.keep b ob q n hb hx⟩
theorem Un.trans (a:Un fs ex H H1 h h1)(b:Un fs ex H1 H2 h1 h2):Un fs ex H H2 h h2 where
 keep:=λc ob q n hc hx=>b.keep c ob (a.keep c ob q n hc hx) (a.free c ob q n hx) hc hx
 slot:=λc ob q n hc hx=>by
  obtain⟨sl,e1⟩:=a.slot c ob q n hc hx;obtain⟨sl',e2⟩:=b.slot c _ e1 (a.free c ob q n hx) hc hx;exact⟨sl',e2⟩
 free:=λc ob q n hx=>by
  obtain⟨o',e1⟩:=a.there c ob q hx;exact b.free c o' e1 (a.free c ob q n hx) hx
 there:=λc ob q hx=>by
  obtain⟨o',e1⟩:=a.there c ob q hx;exact b.there c o' e1 hx
 tups:=λc xs q=>b.tups c xs (a.tups c xs q)
 frzs:=λc ob xs q=>b.frzs c ob xs (a.frzs c ob xs q)
 tbls:=λc ps q=>b.tbls c _ (a.tbls c ps q)
theorem Un.kept (k:∀ b u,h.get? b=some u->h'.get? b=some u):Un fs ex H H h h' :=
 ⟨λb ob q _ _ _=>k b ob q,λb ob q _ _ _=>⟨ob.slots,k b ob q⟩,λ_ _ _ n _=>n,λb ob q _=>⟨ob,k b ob q⟩,λ_ _ q=>q,λ_ _ _ q=>q,λ_ _ q=>q⟩
theorem Un.refl:Un fs ex H H h h:=Un.kept λ_ _ q=>q
theorem Un.laid (k:∀ b u,h.get? b=some u->h'.get? b=some u)(hp:h.objs.size<=a)(hn:H a=none):Un fs ex H (upd H a o) h h' where
 keep:=λb u q _ _ _=>k b u q
 slot:=λb u q _ _ _=>⟨u.slots,k b u q⟩
 free:=λb u q n _=>by rw[zAN (ne_of_lt (xY (lt_size q) hp))];exact n
 there:=λb u q _=>⟨u,k b u q⟩
 tups:=λb xs q=>by rw[zAN (zAg q hn)];exact q
 frzs:=λb u xs q=>by rw[zAN (zAg q hn)];exact q
 tbls:=λb ps q=>by rw[zAN (zAg q hn)];exact q
theorem Un.write (mu:Mut (H x))(he:e=x\/H e=some (.own x))(k:∀ b u,b≠e->h.get? b=some u->h'.get? b=some u)(heo:∃ u,h'.get? e=some u):Un fs ex H (upd H x o) h h':=by
 have hx:∀ b,H b=none->b≠x:=λb n z=>by subst z;rw[n] at mu;exact mu
 have hb:∀ b,H b=none->b≠e:=λb n z=>by
  grind
 have hm:∀ b u,H b=some u->¬ Mut (some u)->b≠x:=λb u q nm z=>by subst z;rw[q] at mu;exact nm mu
 refine⟨λb u q n _ _=>k b u (hb b n) q,λb u q n _ _=>⟨u.slots,k b u (hb b n) q⟩,λb u q n _=>by rw[zAN (hx b n)];exact n,λb u q _=>?_,
  λb xs q=>by rw[zAN (hm b _ q λz=>z)];exact q,λb u xs q=>by rw[zAN (hm b _ q λz=>z)];exact q,λb ps q=>by rw[zAN (hm b _ q λz=>z)];exact q⟩
 grind
theorem Un.mono (u:Un fs ex H H1 h h1)(hs:∀ b∈fs,b∈fs')(hx:∀ b∈ex,b∈ex'):Un fs' ex' H H1 h h1 :=
 ⟨λb ob q n hb he=>u.keep b ob q n (λz=>hb (hs b z)) λz=>he (hx b z),λ_ _ q n _ he=>u.any q n λz=>he (hx _ z),λb ob q n he=>u.free b ob q n λz=>he (hx b z),λb ob q he=>u.there b ob q λz=>he (hx b z),u.tups,u.frzs,u.tbls⟩
end
noncomputable def trk (h:Heap)(H:Hp):List Addr:=(List.range h.objs.size).filter λa=>(H a).isSome
noncomputable def hidT (h:Heap)(H:Hp):Heap:=W.hideAll h (trk h H)
theorem zKL (h:Heap)(H:Hp):(hidT h H).objs.size=h.objs.size:=W.hideAll_size _ _
theorem zMa (e:h.get? b=some o)(n:H b=none):(hidT h H).get? b=some o :=
 W.hideAll_get _ e λhm=>by
  have q:=(mem_filter.mp hm).2;grind
theorem zOy (e:(hidT h H).get? b=some o):h.get? b=some o/\H b=none:=by
 have e':=W.of_hideAll _ e
 simp_all
 cases q:H b with
 | none=>rfl
 | some x =>
  have z:(hidT h H).get? b=none:=W.hideAll_none _ (mem_filter.mpr ⟨mem_range.mpr (lt_size e'),by simp[q]⟩);grind
end L2
namespace L2
open PySem Spec PyProof.Rows
noncomputable def zBg:List Str:=["thinned_covers","Fill.films","Join.films","Group.films"]
noncomputable def lamQ (x:Str):Str:=x ++ ".<locals>." ++ "<lambda>"
noncomputable def zKA:List (Str×Str×Str):=[("Fill.films","Fill","films"),("Join.films","Join","films"),("Group.films","Group","films")]
noncomputable def zQl (K:W.Frag)(f:Addr):Option (Addr×Addr):=match K.lookup f with
 | some ⟨_,_,.func fd,_⟩=>(match fd.code with
  | .ref c=>(match K.lookup c with
   | some ⟨_,_,.fields vs,_⟩=>(match (vs[11]?:Option Value) with
    | some (.ref P)=>some (c,P)
    | _=>none)
   | _=>none)
  | _=>none)
 | _=>none
noncomputable def zD4 (K:W.Frag)(x:Str):Option Addr:=match zKA.lookup x with
 | some (c,m)=>(match W.nsIn K mainGlobals c with
  | some (some (.ref C))=>(match W.findIn K (.ref C) m with
   | some (some (.ref f))=>some f
   | _=>none)
  | _=>none)
 | none=>(match W.nsIn K mainGlobals x with
  | some (some (.ref f))=>some f
  | _=>none)
noncomputable def tabQ (K:W.Frag)(x:Str):Option (Addr×Addr):=(zD4 K x).bind (zQl K)
theorem zI5 {K:W.Frag}(ht:tabQ K x=some (c,P))(hf:zD4 K x=some f)(hl:K.lookup f=some ⟨oc,od,.func fd,sl⟩):fd.code=.ref c:=by
 unfold tabQ at ht
 simp_all
 unfold zQl at ht;rw[hl] at ht
 simp_all
 split at ht
 .rename_i c2 hc;split at ht
  .split at ht
   .grind
   .cases ht
  .cases ht
 .cases ht
structure Mod (K:W.Frag)(mg:Str->Option Value)(base:Heap):Prop where
 kin:K.In base
 glob:base.Ns mainGlobals mg
 blt:∃ mb,base.Ns builtinsNs mb/\∀ x:Str,x ≠ "__name__"->mb x=bootBuiltins x
 nolimit:base.NoLimit
 seer:base.NoSeer
 bm:∃ bm ob,mg "__builtins__"=some (.ref bm)/\bm≠builtinsNs/\base.get? bm=some ob/\ob.cls=.type "module"/\ob.dict=some builtinsNs/\ob.data=.plain
 codes:∀ x∈zBg,∀ c P,tabQ K x=some (c,P)->W.CodeHd base c P
def zIE (K:W.Frag)(H:Hp):Prop:=∀ x∈zBg,∀ c P,tabQ K x=some (c,P)->H P=some (.tbl (lamQ x))
structure Cx where
 prog:Program
 w:World
 K:W.Frag
 mg:Str->Option Value
 base:Heap
 A:Around
 N:List Str
 s0:Shared
 Y6:Hp
 env:Env
 outer:List Env
 stack:List Env
 ex:List Addr
 fn:Str->Bool
 calm:Bool
 pn:List (Addr×Obj)
 xe:Value->Shared->Prop
noncomputable def frs (l:List Env):List Addr:=l.filterMap (·.frame)
abbrev Cx.fs (X:Cx):List Addr:=frs X.outer
def Vis (sc:Scope)(x:Str):Prop:=sc.names.lookup x=some .local\/sc.names.lookup x=some .cell\/sc.names.lookup x=some .free
def Loc (sc:Scope)(x:Str):Prop:=sc.names.lookup x=some .local\/sc.names.lookup x=some .cell
def Look (env:Env)(h:Heap)(m:Str->Option Value)(x:Str)(u:Value):Prop :=
 (env.kindOf x=some .local/\m x=some u)\/((env.kindOf x=some .cell\/env.kindOf x=some .free)/\∃ c,env.cells.lookup x=some c/\h.IsCell c (some u))
structure Cx.Ok (X:Cx):Prop where
 mod:Mod X.K X.mg X.base
 kind:X.env.scope.kind=.function
 glob:X.env.globals=mainGlobals
 blt:X.env.builtins=builtinsNs
 above:X.s0.heap.objs.size<=X.env.locals
 inj:∀ x y c,X.env.cells.lookup x=some c->X.env.cells.lookup y=some c->x=y
 has:∀ x,(X.env.kindOf x=some .cell\/X.env.kindOf x=some .free)->∃ c,X.env.cells.lookup x=some c
 cab:∀ x c,X.fn x=true->X.env.cells.lookup x=some c->X.s0.heap.objs.size<=c
 hd:X.calm=true->X.A.handled=none
 frames:X.A.frames=some X.stack
 stk:X.stack=X.outer\/(X.stack=X.env::X.outer/\X.env.frame=some X.env.locals)
 exf:∀ b∈X.ex,b≠X.env.locals/\∀ x c,X.env.cells.lookup x=some c->c≠b
 bs:∀ b o,X.base.get? b=some o->X.s0.heap.get? b=some o/\X.Y6 b=none
 bsz:X.base.objs.size<=X.s0.heap.objs.size
 noex:∀ b o,X.base.get? b=some o->b∉X.ex
 exfs:∀ b∈X.ex,b∉X.fs
 funs:X.s0.heap.FunFrames X.base X.outer
 frf:∀ b∈X.fs,X.Y6 b=none
 pyl:X.A.depth+Builtin.pylongFrames < recursionLimit/\(model X.prog X.w).prog.given.tree=none/\∃ e l,X.stack=e::l/\e.scope.isGenerator=false/\e.scope.isCoroutine=false/\e.builtins=builtinsNs/\e.globals=mainGlobals
 tabs:zIE X.K X.Y6
structure Inv (X:Cx)(pins:List (Addr×Obj))(B:List (Option V))(H:Hp)(s:Shared):Prop where
 ok:X.Ok
 os:s.os=X.s0.os
 bare:AllBare s.gens
 base:Un X.fs X.ex X.Y6 H X.s0.heap s.heap
 loc:∃ m,s.heap.Ns X.env.locals m/\∀ (i:Nat) (x:Str) (v:V),X.N[i]?=some x->B[i]?=some (some v)->Vis X.env.scope x->∃ u,RelV v u/\Look X.env s.heap m x u
 cell:∀ x c,X.env.cells.lookup x=some c->∃ v,s.heap.IsCell c v
 free:H X.env.locals=none
 freeC:∀ x c,X.env.cells.lookup x=some c->H c=none
 pin:∀ p∈X.pn++pins,s.heap.get? p.1=some p.2/\H p.1=none/\p.1≠X.env.locals/\p.1∉X.fs/\∀ v,p.2.data≠.cell v
 hok:HOk X.prog X.w H s.heap
 len:B.length=X.N.length
section
variable {X:Cx}{pins:List (Addr×Obj)}{B:List (Option V)}{H H':Hp}{s:Shared}{h':Heap}
theorem Cx.Ok.nofr (ok:X.Ok)(e:X.base.get? b=some o):b∉X.fs:=λhb=>by
 have:=(ok.funs.mem hb).1;grind
theorem Inv.bs (I:Inv X pins B H s):∀ b o,X.base.get? b=some o->s.heap.get? b=some o/\H b=none:=λb o e =>
 ⟨I.base.keep b o (I.ok.bs b o e).1 (I.ok.bs b o e).2 (I.ok.nofr e) (I.ok.noex b o e),I.base.free b o (I.ok.bs b o e).1 (I.ok.bs b o e).2 (I.ok.noex b o e)⟩
theorem Inv.bk (I:Inv X pins B H s):∀ b o,X.base.get? b=some o->s.heap.get? b=some o:=λb o e=>(I.bs b o e).1
theorem Inv.mod (I:Inv X pins B H s):Mod X.K X.mg X.base:=I.ok.mod
theorem Inv.kIn (I:Inv X pins B H s):X.K.In s.heap:=I.ok.mod.kin.keeps I.bk
theorem Inv.nolimit (I:Inv X pins B H s):s.heap.NoLimit:=I.ok.mod.nolimit.keeps I.bk
theorem Inv.lt (I:Inv X pins B H s):X.env.locals < s.heap.objs.size:=let ⟨_,hn,_⟩:=I.loc;hn.lt
theorem Inv.sz (I:Inv X pins B H s):X.s0.heap.objs.size<=s.heap.objs.size:=le_trans I.ok.above (Nat.le_of_lt I.lt)
theorem Inv.nofs (I:Inv X pins B H s){a:Addr}(h:s.heap.objs.size<=a):a∉X.fs:=λhb=>by
 obtain⟨_,o,ho,_⟩:=I.ok.funs.mem hb;exact absurd (xY (lt_size ho) (le_trans I.sz h)) (lt_irrefl _)
theorem Inv.cne (I:Inv X pins B H s):∀ x c,X.env.cells.lookup x=some c->c≠X.env.locals:=λx c e z=>by
 obtain⟨v,o,ho,hd⟩:=I.cell x c e;obtain⟨m,⟨o',es,ep,ho',hd',_⟩,_⟩:=I.loc;grind
theorem Inv.funs (I:Inv X pins B H s):s.heap.FunFrames X.base X.outer:=by
 have all:∀ (l:List Env),(∀ b∈frs l,b∈X.fs)->X.s0.heap.FunFrames X.base l->s.heap.FunFrames X.base l:=by
  intro l
  induction l with
  | nil=>intro _ _;trivial
  | cons env r ih =>
   intro hs hl;obtain⟨hk,⟨L,o,hf,hn,ho,hd⟩,hr⟩:=hl;have hL:L∈X.fs:=hs L (by unfold frs;rw[List.filterMap_cons,hf];exact xq);obtain⟨sl,e⟩:=I.base.slot L o ho (I.ok.frf L hL) hL λz=>I.ok.exfs L z hL
   exact⟨hk,⟨L,_,hf,hn,e,hd⟩,ih (λb hb=>hs b (by unfold frs;rw[List.filterMap_cons,hf];exact qJ _ hb)) hr⟩
 exact all X.outer (λ_ hb=>hb) I.ok.funs
theorem Inv.stack (I:Inv X pins B H s):s.heap.FunFrames X.base X.stack:=by
 rcases I.ok.stk with e | ⟨e,hf⟩
 .rw [e];exact I.funs
 .rw [e];obtain⟨m,hn,_⟩:=I.loc;refine .cons (by rw[I.ok.kind];decide) hf hn ?_ I.funs;exact Heap.get?_none_of_le (le_trans I.ok.bsz I.ok.above)
theorem Inv.stkSub (I:Inv X pins B H s):∀ b∈frs X.stack,b∈X.env.locals::X.fs:=λb hb=>by
 rcases I.ok.stk with e | ⟨e,hf⟩
 .simp_all
 .rw [e] at hb;unfold frs at hb;rw[List.filterMap_cons,hf] at hb;exact hb
theorem Inv.stkFree (I:Inv X pins B H s):∀ b∈frs X.stack,H b=none:=λb hb=>by
 rcases mem_cons.mp (I.stkSub b hb) with e | hb
 .rw [e];exact I.free
 .obtain ⟨_,o,ho,_⟩:=I.ok.funs.mem hb;exact I.base.free b o ho (I.ok.frf b hb) λz=>I.ok.exfs b z hb
theorem Inv.step {ch:List Addr}(I:Inv X pins B H s)
  (hch:∀ b∈ch,(b∈X.ex\/X.s0.heap.objs.size<=b)/\b≠X.env.locals/\(∀ x c,X.env.cells.lookup x=some c->c≠b)/\∀ p∈X.pn++pins,p.1≠b)
  (keep:∀ b o,b≠X.env.locals->b∉X.fs->b∉ch->s.heap.get? b=some o->H b=none->h'.get? b=some o)
  (slot:∀ b o,b≠X.env.locals->b∈X.fs->b∉ch->s.heap.get? b=some o->H b=none->∃ sl,h'.get? b=some { o with slots:=sl }) (free:∀ b o,b∉ch->s.heap.get? b=some o->H b=none->H' b=none)
  (there:∀ b o,b∉ch->s.heap.get? b=some o->∃ o',h'.get? b=some o')
  (tups:∀ b xs,H b=some (.tup xs)->H' b=some (.tup xs)) (frzs:∀ b o u,H b=some (.frz o u)->H' b=some (.frz o u)) (tbls:∀ b q,H b=some (.tbl q)->H' b=some (.tbl q))
  (ns:∀ m,s.heap.Ns X.env.locals m->h'.Ns X.env.locals m) (hok:HOk X.prog X.w H' h') (hg:AllBare g') :
  Inv X pins B H' { s with heap:=h',gens:=g',drawn:=d',toks:=t' }:=by
 have neL:∀ b o,X.s0.heap.get? b=some o->b≠X.env.locals:=λb o e=>ne_of_lt (xY (lt_size e) I.ok.above)
 have neC:∀ b o,X.s0.heap.get? b=some o->b∉X.ex->b∉ch:=λb o e hx hb=>by
  rcases(hch b hb).1 with z | z
  .exact hx z
  .exact absurd (xY (lt_size e) z) (lt_irrefl _)
 have cellK:∀ x c,X.env.cells.lookup x=some c->∀ v,s.heap.IsCell c v->h'.IsCell c v:=λx c e v zz0=>by
  obtain⟨o,ho,hd⟩:=zz0;have nch:c∉ch:=λz=>(hch c z).2.2.1 x c e rfl
  by_cases hc:c∈X.fs
  .obtain ⟨sl,q⟩:=slot c o (I.cne x c e) hc nch ho (I.freeC x c e);exact⟨_,q,hd⟩
  .exact ⟨o,keep c o (I.cne x c e) hc nch ho (I.freeC x c e),hd⟩
 refine⟨I.ok,I.os,hg,⟨λb o e n hb hx=>?_,λb o e n hb hx=>?_,λb o e n hx=>?_,λb o e hx=>?_,λb xs e=>tups b xs (I.base.tups b xs e),λb o xs e=>frzs b o xs (I.base.frzs b o xs e),λb ps e=>?_⟩,?_,λx c e=>?_,?_,λx c e=>?_,λp hp=>?_,hok,I.len⟩
 .exact keep b o (neL b o e) hb (neC b o e hx) (I.base.keep b o e n hb hx) (I.base.free b o e n hx)
 .obtain ⟨sl,e1⟩:=I.base.slot b o e n hb hx;obtain⟨sl',e2⟩:=slot b _ (neL b o e) hb (neC b o e hx) e1 (I.base.free b o e n hx);exact⟨sl',e2⟩
 .obtain ⟨o',e1⟩:=I.base.there b o e hx;exact free b o' (neC b o e hx) e1 (I.base.free b o e n hx)
 .obtain ⟨o',e1⟩:=I.base.there b o e hx;exact there b o' (neC b o e hx) e1
 .exact tbls b _ (I.base.tbls b ps e)
 .obtain ⟨m,hn,hl⟩:=I.loc;refine⟨m,ns m hn,λi x v e1 e2 e3=>?_⟩;obtain⟨u,r,l⟩:=hl i x v e1 e2 e3;refine⟨u,r,?_⟩;rcases l with l | ⟨k,c,e,z⟩
  .exact .inl l
  .exact .inr ⟨k,c,e,cellK x c e _ z⟩
 .obtain ⟨v,z⟩:=I.cell x c e;exact⟨v,cellK x c e v z⟩
 .obtain ⟨m,⟨o,_,_,ho,_⟩,_⟩:=I.loc;exact free _ o (λz=>(hch _ z).2.1 rfl) ho I.free
 .obtain ⟨v,o,ho,hd⟩:=I.cell x c e;exact free c o (λz=>(hch c z).2.2.1 x c e rfl) ho (I.freeC x c e)
 .obtain ⟨e,n,ne,nf,d⟩:=I.pin p hp;have nch:p.1∉ch:=λz=>(hch p.1 z).2.2.2 p hp rfl
  exact⟨keep p.1 p.2 ne nf nch e n,free p.1 p.2 nch e n,ne,nf,d⟩
theorem Inv.un (I:Inv X pins B H s)(u:Un X.fs [] H H' s.heap h')(hok:HOk X.prog X.w H' h'):Inv X pins B H' { s with heap:=h',toks:=t' }:=by
 obtain⟨m,⟨o,es,ep,ho,r⟩,_⟩:=id I.loc;obtain⟨sl,hL⟩:=u.any ho I.free (by simp);exact I.step (ch:=[]) (λ_ z=>nomatch z) (λb o _ hb _ e n=>u.keep b o e n hb (by simp)) (λb o _ hb _ e n=>u.slot b o e n hb (by simp)) (λb o _ e n=>u.free b o e n (by simp)) (λb o _ e=>u.there b o e (by simp)) u.tups u.frzs u.tbls (λm' hm=>by
  obtain⟨o',es',ep',ho',r'⟩:=hm;rw[ho] at ho';cases ho';exact⟨_,es',ep',hL,r'⟩) hok I.bare
theorem Inv.call (I:Inv X pins B H s)(u:Un (frs X.stack) ch H H' s.heap h')(hok:HOk X.prog X.w H' h')(hg:AllBare g')
  (hch:∀ b∈ch,(b∈X.ex\/X.s0.heap.objs.size<=b)/\b≠X.env.locals/\(∀ x c,X.env.cells.lookup x=some c->c≠b)/\∀ p∈X.pn++pins,p.1≠b) :
  Inv X pins B H' { s with heap:=h',gens:=g',drawn:=d',toks:=t' }:=by
 obtain⟨m,⟨o,es,ep,ho,r⟩,_⟩:=id I.loc;obtain⟨sl,hL⟩:=u.any ho I.free λz=>(hch _ z).2.1 rfl
 exact I.step hch (λb o hL hb hc e n=>u.keep b o e n (λz=>(mem_cons.mp (I.stkSub b z)).elim hL hb) hc) (λb o _ _ hc e n=>u.any e n hc) (λb o hc e n=>u.free b o e n hc) (λb o hc e=>u.there b o e hc) u.tups u.frzs u.tbls (λm' hm=>by
  obtain⟨o',es',ep',ho',r'⟩:=hm;rw[ho] at ho';cases ho';exact⟨_,es',ep',hL,r'⟩) hok hg
theorem Inv.turned (I:Inv X pins B H s)(k:∀ b o,b≠it->s.heap.get? b=some o->h'.get? b=some o)(hn:H it=none)(hL:it≠X.env.locals)
  (h1:it∈X.ex\/X.s0.heap.objs.size<=it) (h2:∀ x c,X.env.cells.lookup x=some c->c≠it) (h3:∀ p∈X.pn++pins,p.1≠it):Inv X pins B H { s with heap:=h',toks:=t' }:=by
 refine I.step (ch:=[it]) (λb hb=>?_) (λb o _ _ hc e _=>k b o (λz=>hc (by grind)) e) (λb o _ _ hc e _=>⟨o.slots,k b o (λz=>hc (by simp[z])) e⟩) (λ_ _ _ _ n=>n)
  (λb o hc e=>⟨o,k b o (λz=>hc (by simp[z])) e⟩) (λ_ _ e=>e) (λ_ _ _ e=>e) (λ_ _ e=>e) (λm hm=>?_) (λb u e=>?_) I.bare
 .have e:b=it:=by simpa using hb
  subst e;exact⟨h1,hL,h2,h3⟩
 .obtain ⟨o,es,ep,ho,r⟩:=hm;exact⟨o,es,ep,k _ o (Ne.symm hL) ho,r⟩
 .refine (I.hok b u e).stay (λc v hc q=>k c v ?_ q) (λ_ q=>q) (λ_ _ q=>q) λ_ _ _ q _=>q
  grind
theorem Inv.tabs (I:Inv X pins B H s):zIE X.K H:=λx hx c P e=>I.base.tbls _ _ (I.ok.tabs x hx c P e)
theorem Inv.tok (I:Inv X pins B H s)(t:Nat):Inv X pins B H { s with toks:=t }:=I.un Un.refl I.hok
theorem Inv.kept (I:Inv X pins B H s)(k:∀ b u,s.heap.get? b=some u->h'.get? b=some u):Inv X pins B H { s with heap:=h',toks:=t' }:=I.un (Un.kept k) (I.hok.kept k)
theorem Inv.laid {a:Addr}{o:HO}{t':Nat}(I:Inv X pins B H s)(k:∀ b u,s.heap.get? b=some u->h'.get? b=some u)(hp:s.heap.objs.size<=a)(new:zCP X.prog X.w (upd H a o) h' a o) :
  Inv X pins B (upd H a o) { s with heap:=h',toks:=t' }:=I.un (Un.laid k hp (I.hok.fresh hp)) (I.hok.laid k hp new)
theorem Inv.write (I:Inv X pins B H s)(mu:Mut (H x))(he:e=x\/H e=some (.own x))(k:∀ b u,b≠e->s.heap.get? b=some u->h'.get? b=some u)(heo:∃ u,h'.get? e=some u)
  (new:zCP X.prog X.w (upd H x o) h' x o):Inv X pins B (upd H x o) { s with heap:=h',toks:=t' }:=I.un (Un.write mu he k heo) (I.hok.write mu he k heo new)
theorem Inv.pins_of (I:Inv X pins B H s)(h:∀ p∈pins',s.heap.get? p.1=some p.2/\H p.1=none/\p.1≠X.env.locals/\p.1∉X.fs/\∀ v,p.2.data≠.cell v):Inv X pins' B H s :=
 ⟨I.ok,I.os,I.bare,I.base,I.loc,I.cell,I.free,I.freeC,λp hp=>(mem_append.mp hp).elim (λz=>I.pin p (List.mem_append_left _ z)) (h p),I.hok,I.len⟩
theorem zHg {N:List Str}(hN:N.Nodup){j:Nat}{x:Str}(a:N[i]?=some x)(b:N[j]?=some x):i=j:=by
 obtain⟨h1,e1⟩:=zzg a;obtain⟨h2,e2⟩:=zzg b;exact(List.getElem_inj hN).mp (e1.trans e2.symm)
theorem zJB (I:Inv X pins B H s)(hN:X.N.Nodup)(hi:X.N[i]?=some x)(hx:Loc X.env.scope x)(r:RelV v u)
  (h:∀ s',Inv X pins (B.set i (some v)) H s'->(∃ a,Heap.SameBut a s.heap s'.heap/\(a=X.env.locals\/X.env.cells.lookup x=some a))->Q () s') (hf:X.fn x=true\/X.env.scope.names.lookup x=some .local:=by first | exact .inl rfl | exact .inr rfl | assumption):wpAny M A (storeName X.env x u) Q E s:=by
 obtain⟨m,hn,hl⟩:=id I.loc;have hiB:i < B.length:=by rw[I.len];exact(zzg hi).1
 have cne:=I.cne;have tracked:∀ {a:Addr} {h':Heap},(∃ o,s.heap.get? a=some o/\H a=none)->Heap.SameBut a s.heap h'->HOk X.prog X.w H h':=λ{a h'} ha hs b ob e=>by
  obtain⟨_,_,hfree⟩:=ha;refine(I.hok b ob e).stay (λc w' hc q=>(hs.2 c ?_).trans q) (λ_ q=>q) (λ_ _ q=>q) λ_ _ _ q _=>q
  rintro rfl;rcases hc with rfl | hc
  .rw [hfree] at e;cases e
  .rw [hfree] at hc;cases hc
 rcases hx with hk | hk
 .refine wpAny_storeName_local hk hn (λh' hn' hs=>?_) (by rw[I.ok.kind];rfl);obtain⟨oL,_,_,hoL,_⟩:=id hn;refine h _ ⟨I.ok,I.os,I.bare,⟨λb o e n hb hx=>?_,λb o e n hb hx=>?_,I.base.free,λb o e hx=>?_,I.base.tups,I.base.frzs,I.base.tbls⟩,⟨_,hn',λj y v' e1 e2 e3=>?_⟩,λy c e=>?_,I.free,I.freeC,λp hp=>?_,tracked ⟨oL,hoL,I.free⟩ hs,by simpa using I.len⟩ ⟨_,hs,.inl rfl⟩
  .exact (hs.2 b (ne_of_lt (xY (lt_size e) I.ok.above))).trans (I.base.keep b o e n hb hx)
  .obtain ⟨sl,e1⟩:=I.base.slot b o e n hb hx;exact⟨sl,(hs.2 b (ne_of_lt (xY (lt_size e) I.ok.above))).trans e1⟩
  .obtain ⟨o',e1⟩:=I.base.there b o e hx;exact⟨o',(hs.2 b (ne_of_lt (xY (lt_size e) I.ok.above))).trans e1⟩
  .by_cases hj:j=i
   .subst hj;rw[hi] at e1;cases e1;rw[getElem?_set_self hiB] at e2;cases e2;exact⟨u,r,.inl ⟨hk,by simp⟩⟩
   .rw [getElem?_set_ne (Ne.symm hj)] at e2;obtain⟨u',r',q⟩:=hl j y v' e1 e2 e3;refine⟨u',r',?_⟩;rcases q with ⟨k,e⟩ | ⟨k,c,e,z⟩
    .refine .inl ⟨k,?_⟩;have:y≠x:=λe=>hj (zHg hN e1 (e▸hi))
     simp[this,e]
    .exact .inr ⟨k,c,e,z.sameBut hs (cne y c e)⟩
  .obtain ⟨w',z⟩:=I.cell y c e;exact⟨w',z.sameBut hs (cne y c e)⟩
  .obtain ⟨e,n,ne,nf,d⟩:=I.pin p hp;exact⟨(hs.2 p.1 ne).trans e,n,ne,nf,d⟩
 .have hfn:X.fn x=true:=by
   rcases hf with z | z
   .exact z
   .rw [z] at hk;cases hk
  obtain⟨c,hc⟩:=I.ok.has x (.inl hk);obtain⟨w',z⟩:=I.cell x c hc;refine wpAny_storeName_cell I.ok.kind hk hc z (λh' hc' hs=>?_);obtain⟨oc,hoc,hocd⟩:=id z;refine h { s with heap:=h' } ⟨I.ok,I.os,I.bare,⟨λb o e n hb hx=>?_,λb o e n hb hx=>?_,I.base.free,λb o e hx=>?_,I.base.tups,I.base.frzs,I.base.tbls⟩,⟨m,hn.sameBut hs (Ne.symm (cne x c hc)),λj y v' e1 e2 e3=>?_⟩,λy c' e=>?_,I.free,I.freeC,λp hp=>?_,tracked ⟨oc,hoc,I.freeC x c hc⟩ hs,by simpa using I.len⟩ ⟨c,hs,.inr hc⟩
  .exact (hs.2 b (ne_of_lt (xY (lt_size e) (I.ok.cab x c hfn hc)))).trans (I.base.keep b o e n hb hx)
  .obtain ⟨sl,e1⟩:=I.base.slot b o e n hb hx;exact⟨sl,(hs.2 b (ne_of_lt (xY (lt_size e) (I.ok.cab x c hfn hc)))).trans e1⟩
  .obtain ⟨o',e1⟩:=I.base.there b o e hx;exact⟨o',(hs.2 b (ne_of_lt (xY (lt_size e) (I.ok.cab x c hfn hc)))).trans e1⟩
  .by_cases hj:j=i
   .subst hj;rw[hi] at e1;cases e1;rw[getElem?_set_self hiB] at e2;cases e2;exact⟨u,r,.inr ⟨.inl hk,c,hc,hc'⟩⟩
   .rw [getElem?_set_ne (Ne.symm hj)] at e2;obtain⟨u',r',q⟩:=hl j y v' e1 e2 e3;refine⟨u',r',?_⟩;rcases q with q | ⟨k,c',e,z'⟩
    .exact .inl q
    .refine .inr ⟨k,c',e,z'.sameBut hs ?_⟩;rintro rfl;exact hj (zHg hN e1 (I.ok.inj _ _ _ e hc▸hi))
  .by_cases hcc:c'=c
   .subst hcc;exact⟨_,hc'⟩
   .obtain ⟨w2,z2⟩:=I.cell y c' e;exact⟨w2,z2.sameBut hs hcc⟩
  .obtain ⟨e,n,ne,nf,d⟩:=I.pin p hp;refine⟨(hs.2 p.1 ?_).trans e,n,ne,nf,d⟩;intro q;rw[q,hoc] at e;have q':oc=p.2:=xX e;exact d w' (by rw[<- q'];exact hocd)
theorem zFC (I:Inv X pins B H s)(hN:X.N.Nodup)(hi:X.N[i]?=some x)(hx:Loc X.env.scope x)(r:RelV v u)
  (h:∀ s',Inv X pins (B.set i (some v)) H s'->Q () s') (hf:X.fn x=true\/X.env.scope.names.lookup x=some .local:=by first | exact .inl rfl | exact .inr rfl | assumption):wpAny M A (storeName X.env x u) Q E s :=
 zJB I hN hi hx r (λs' I' _=>h s' I') hf
theorem Inv.call' (I:Inv X pins B H s)(ho:s'.os=s.os)(u:Un (frs X.stack) ch H H' s.heap s'.heap)(hok:HOk X.prog X.w H' s'.heap)(hg:AllBare s'.gens)
  (hch:∀ b∈ch,(b∈X.ex\/X.s0.heap.objs.size<=b)/\b≠X.env.locals/\(∀ x c,X.env.cells.lookup x=some c->c≠b)/\∀ p∈X.pn++pins,p.1≠b):Inv X pins B H' s':=by
 obtain⟨h',g',d',t',o'⟩:=s';subst ho;exact I.call u hok hg hch
end
abbrev XK:=Value->Option Addr->Hp->Prop
abbrev St:=List (Option V)
abbrev VK:=V->Hp->Prop
abbrev TE:=St->Hp->VK->Prop
abbrev TT:=St->Hp->(Bool->Hp->Prop)->Prop
abbrev TA:=St->Hp->(List V->Hp->Prop)->Prop
structure Ends where
 nx:St->Hp->Prop
 rt:VK
 bk:St->Hp->Prop:=λ_ _=>False
 ct:St->Hp->Prop:=λ_ _=>False
abbrev TS:=Ends->St->Hp->Prop
def EP (X:Cx)(pins:List (Addr×Obj))(B:St)(Q:VK)(u:Value)(s':Shared):Prop:=∃ v H',Inv X pins B H' s'/\RelV v u/\Q v H'
def TP (X:Cx)(pins:List (Addr×Obj))(B:St)(Q:Bool->Hp->Prop)(b:Bool)(s':Shared):Prop:=∃ H',Inv X pins B H' s'/\Q b H'
def AP (X:Cx)(pins:List (Addr×Obj))(B:St)(Q:List V->Hp->Prop)(us:List Value)(s':Shared):Prop:=∃ vs H',Inv X pins B H' s'/\Vals vs us/\Q vs H'
def SP (X:Cx)(pins:List (Addr×Obj))(D:Ends)(f:Flow)(s':Shared):Prop :=
 match f with
 | .next=>∃ B' H',Inv X pins B' H' s'/\D.nx B' H'
 | .brk=>∃ B' H',Inv X pins B' H' s'/\D.bk B' H'
 | .cont=>∃ B' H',Inv X pins B' H' s'/\D.ct B' H'
 | .ret u=>∃ v B' H',Inv X pins B' H' s'/\RelV v u/\D.rt v H'
def PE (X:Cx)(e:Expr)(t:TE):Prop :=
 ∀ (pins:List (Addr×Obj)) (s:Shared) (B:St) (H:Hp) (Q:VK),Inv X pins B H s->t B H Q->wpAny (model X.prog X.w) X.A (eval e X.env) (EP X pins B Q) X.xe s
def PT (X:Cx)(e:Expr)(t:TT):Prop :=
 ∀ (pins:List (Addr×Obj)) (s:Shared) (B:St) (H:Hp) (Q:Bool->Hp->Prop),Inv X pins B H s->t B H Q->wpAny (model X.prog X.w) X.A (isTrue e X.env (eval e X.env)) (TP X pins B Q) X.xe s
def PW (X:Cx)(e:Expr)(t:TT):Prop :=
 ∀ (whole:Sem Value) (pins:List (Addr×Obj)) (s:Shared) (B:St) (H:Hp) (Q:Bool->Hp->Prop),Inv X pins B H s->t B H Q->wpAny (model X.prog X.w) X.A (isTrue e X.env whole) (TP X pins B Q) X.xe s
theorem PW.pt (h:PW X e t):PT X e t:=h _
def PA (X:Cx)(es:List Expr)(t:TA):Prop :=
 ∀ (pos:Pos) (pins:List (Addr×Obj)) (s:Shared) (B:St) (H:Hp) (Q:List V->Hp->Prop),Inv X pins B H s->t B H Q->wpAny (model X.prog X.w) X.A (spliced (backTo pos (starEach es X.env))) (AP X pins B Q) X.xe s
def PS (X:Cx)(st:Stmt)(t:TS):Prop :=
 ∀ (pins:List (Addr×Obj)) (s:Shared) (B:St) (H:Hp) (D:Ends),Inv X pins B H s->t D B H->wpAny (model X.prog X.w) X.A (exec st X.env) (SP X pins D) X.xe s
def PSs (X:Cx)(st:List Stmt)(t:TS):Prop :=
 ∀ (pins:List (Addr×Obj)) (s:Shared) (B:St) (H:Hp) (D:Ends),Inv X pins B H s->t D B H->wpAny (model X.prog X.w) X.A (execs st X.env) (SP X pins D) X.xe s
theorem thn {T:Type}{t:Sem T}{Q Q':T->Shared->Prop}{M:Model}{A:Around}{E:Value->Shared->Prop}{s:Shared}(h:wpAny M A t Q E s)(hQ:∀ a s,Q a s->Q' a s):wpAny M A t Q' E s:=wpAny_mono h hQ λ_ _ x=>x
section
variable {X:Cx}
theorem bin {a b:Expr}{ta tb:TE}(ha:PE X a ta)(hb:PE X b tb){pins:List (Addr×Obj)}{s:Shared}{B:St}{H:Hp}{R:V->V->Hp->Prop}(I:Inv X pins B H s)(h:ta B H λx H1=>tb B H1 λy H2=>R x y H2)
  {T:Type} {Q:T->Shared->Prop} {f:Value->Value->Sem T}
  (hf:∀ v u s2 x y H2,Inv X pins B H2 s2->RelV x v->RelV y u->R x y H2->wpAny (model X.prog X.w) X.A (f v u) Q X.xe s2) :
  wpAny (model X.prog X.w) X.A (eval a X.env) (λv O3=>wpAny (model X.prog X.w) X.A (eval b X.env) (λu O8=>wpAny (model X.prog X.w) X.A (f v u) Q X.xe O8) X.xe O3) X.xe s:=by
 refine thn (ha pins s B H _ I h) λv s1 zz1=>?_
 obtain⟨x,H1,I1,r1,q1⟩:=zz1;refine thn (hb pins s1 B H1 _ I1 q1) λu s2 zz2=>?_
 obtain⟨y,H2,I2,r2,q2⟩:=zz2;exact hf v u s2 x y H2 I2 r1 r2 q2
def tVar (i:Nat):TE:=λB H Q=>∃ v,B[i]?=some (some v)/\Q v H
def tC (v:V):TE:=λ_ H Q=>Q v H
theorem zC0 {i:Nat}{x:Str}{pos:Pos}(hN:X.N[i]?=some x)(hv:Vis X.env.scope x)(hd:(x==("__debug__":Str))=false:=by decide)(hcd:(x==("__classdict__":Str))=false:=by decide):PE X (.Name x pos) (tVar i):=by
 intro pins s B H Q I h;obtain⟨v,e,h⟩:=h;obtain⟨m,hn,hl⟩:=I.loc;obtain⟨u,r,l⟩:=hl i x v hN e hv;have fin:EP X pins B Q u s:=⟨v,H,I,r,h⟩;rcases l with ⟨hk,hm⟩ | ⟨hk,c,hc,hcell⟩
 .exact wpAny_Name (wpAny_loadName_local I.ok.kind hk hn hm fin) hd
 .rcases hk with hk | hk
  .exact wpAny_Name (wpAny_loadName_cell I.ok.kind hk hc hcell fin) hd
  .exact wpAny_Name (wpAny_loadName_free I.ok.kind hk hc hcell fin hcd) hd
theorem zRI {i j pos}:PE X (.Constant (.int i) j pos) (tC (.int i)):=λ_ _ _ H _ I h=>wpAny_Constant_int ⟨.int i,H,I.tok _,⟨_,rfl⟩,h⟩
theorem zTf {b j pos}:PE X (.Constant (.bool b) j pos) (tC (.bl b)):=λ_ _ _ H _ I h=>Constant_bool ⟨.bl b,H,I,rfl,h⟩
theorem zRG {j pos}:PE X (.Constant .none j pos) (tC .non):=λ_ _ _ H _ I h=>Constant_none ⟨.non,H,I,rfl,h⟩
theorem zRC {x j pos}:PE X (.Constant (.str x) j pos) (tC (.str x)):=λ_ _ _ H _ I h=>Calls.Constant_str ⟨.str x,H,I.tok _,⟨_,rfl⟩,h⟩
def Gl (X:Cx)(x:Str):Prop:=X.env.kindOf x=some .globalImplicit
theorem zDx {E:Value->Shared->Prop}{pins:List (Addr×Obj)}{s:Shared}{B:St}{H:Hp}{x:Str}{u:Value}{pos:Pos}{Q:Value->Shared->Prop}(I:Inv X pins B H s)(hg:Gl X x)(hm:X.mg x=some u)(h:Q u s)
  (hd:(x==("__debug__":Str))=false:=by decide):wpAny (model X.prog X.w) X.A (eval (.Name x pos) X.env) Q E s :=
 Calls.Name_function_global I.ok.kind hg (Calls.loadGlobal_global (by rw[I.ok.glob];exact I.mod.glob.keeps I.bk) hm h) hd
theorem zCe {E:Value->Shared->Prop}{pins:List (Addr×Obj)}{s:Shared}{B:St}{H:Hp}{x:Str}{u:Value}{pos:Pos}{Q:Value->Shared->Prop}(I:Inv X pins B H s)(hg:Gl X x)(hm:X.mg x=none)(hv:bootBuiltins x=some u)(h:Q u s)
  (hn:x ≠ "__name__":=by decide) (hd:(x==("__debug__":Str))=false:=by decide):wpAny (model X.prog X.w) X.A (eval (.Name x pos) X.env) Q E s:=by
 obtain⟨mb,h1,h2⟩:=I.mod.blt;exact Calls.Name_function_global I.ok.kind hg (Calls.loadGlobal_builtin (by rw[I.ok.glob];exact I.mod.glob.keeps I.bk) hm (by rw[I.ok.blt];exact h1.keeps I.bk) ((h2 x hn).trans hv) h) hd
theorem zOn (hg:Gl X x)(hm:X.mg x=some u)(r:RelV v u)(hd:(x==("__debug__":Str))=false:=by decide):PE X (.Name x pos) (tC v) :=
 λ_ _ _ H _ I h=>zDx I hg hm ⟨v,H,I,r,h⟩ hd
theorem zOq {x:Str}{v:V}{u:Value}{pos:Pos}(hg:Gl X x)(hm:X.mg x=none)(hv:bootBuiltins x=some u)(r:RelV v u)(hn:x ≠ "__name__":=by decide)(hd:(x==("__debug__":Str))=false:=by decide):PE X (.Name x pos) (tC v) :=
 λ_ _ _ H _ I h=>zCe I hg hm hv ⟨v,H,I,r,h⟩ hn hd
variable {a b:Expr}{ta tb:TE}{pos:Pos}
def tB (t:TE):TT:=λB H Q=>t B H λx H1=>∃ c,x=.bl c/\Q c H1
theorem zNk (h:PE X e t)(he:∀ whole,isTrue e X.env whole=(do let v<-whole;standAt e.pos;holding [v] (truthy v)):=by intro _;rfl):PT X e (tB t):=by
 intro pins s B H Q I hw;refine isTrue_plain (thn (h pins s B H _ I hw) λv s1 zz3=>?_) (he _);obtain⟨x,H1,I1,r1,q1⟩:=zz3;obtain⟨d,rfl,q⟩:=q1;cases r1;exact wpAny_truthy_bool ⟨H1,I1,q⟩
variable {tA tB':TT}{rest:List Expr}
def tAnd (t u:TT):TT:=λB H Q=>t B H λc H1=>if c=true then u B H1 Q else Q false H1
def tOr (t u:TT):TT:=λB H Q=>t B H λc H1=>if c=true then Q true H1 else u B H1 Q
def tNot (t:TT):TT:=λB H Q=>t B H λc H1=>Q (!c) H1
theorem zJV (ha:PT X a tA):PW X (.BoolOp .And [a] pos) tA:=by
 intro wh pins s B H Q I h;refine isTrue_and (thn (ha pins s B H Q I h) λc s1 e=>?_);cases c with
 | true=>exact isTrue_and_nil e
 | false=>exact e
theorem zNi (ha:PT X a tA):PW X (.BoolOp .Or [a] pos) tA:=by
 intro wh pins s B H Q I h;refine isTrue_or (thn (ha pins s B H Q I h) λc s1 e=>?_);cases c with
 | false=>exact isTrue_or_nil e
 | true=>exact e
theorem zNj (ha:PT X a tA)(hb:PW X (.BoolOp .And (b::rest) pos) tB'):PW X (.BoolOp .And (a::b::rest) pos) (tAnd tA tB'):=by
 intro wh pins s B H Q I h;refine isTrue_and (thn (ha pins s B H _ I h) λc s1 zz4=>?_);obtain⟨H1,I1,q1⟩:=zz4;cases c with
 | true=>exact hb wh pins s1 B H1 Q I1 q1
 | false=>exact⟨H1,I1,q1⟩
theorem zQ6 (ha:PT X a tA)(hb:PW X (.BoolOp .Or (b::rest) pos) tB'):PW X (.BoolOp .Or (a::b::rest) pos) (tOr tA tB'):=by
 intro wh pins s B H Q I h;refine isTrue_or (thn (ha pins s B H _ I h) λc s1 zz5=>?_);obtain⟨H1,I1,q1⟩:=zz5;cases c with
 | true=>exact⟨H1,I1,q1⟩
 | false=>exact hb wh pins s1 B H1 Q I1 q1
theorem zNl (ha:PT X a tA):PT X (.UnaryOp .Not a pos) (tNot tA):=by
 intro pins s B H Q I h;exact isTrue_not (ha pins s B H _ I h)
def zTY (ta tb:TE):TE:=λB H Q=>ta B H λx H1=>∃ c,x=.bl c/\if c=true then tb B H1 Q else Q (.bl false) H1
def tOrV (ta tb:TE):TE:=λB H Q=>ta B H λx H1=>∃ c,x=.bl c/\if c=true then Q (.bl true) H1 else tb B H1 Q
def zTV (ta:TE):TE:=λB H Q=>ta B H λx H1=>∃ c,x=.bl c/\Q (.bl (!c)) H1
theorem zRE {op}(h:PE X a t):PE X (.BoolOp op [a] pos) t:=by assumption
theorem zRJ (ha:PE X a ta)(hb:PE X (.BoolOp .And (b::rest) pos) tb):PE X (.BoolOp .And (a::b::rest) pos) (zTY ta tb):=by
 intro pins s B H Q I h;refine BoolOp_and (thn (ha pins s B H _ I h) λv s1 zz6=>?_);obtain⟨x,H1,I1,r1,q1⟩:=zz6;obtain⟨c,rfl,q1⟩:=q1;cases r1;refine wpAny_truthy_bool ?_;cases c with
 | true=>exact hb pins s1 B H1 Q I1 q1
 | false=>exact⟨.bl false,H1,I1,rfl,q1⟩
theorem zTe (ha:PE X a ta)(hb:PE X (.BoolOp .Or (b::rest) pos) tb):PE X (.BoolOp .Or (a::b::rest) pos) (tOrV ta tb):=by
 intro pins s B H Q I h;refine BoolOp_or (thn (ha pins s B H _ I h) λv s1 zz7=>?_);obtain⟨x,H1,I1,r1,q1⟩:=zz7;obtain⟨c,rfl,q1⟩:=q1;cases r1;refine wpAny_truthy_bool ?_;cases c with
 | false=>exact hb pins s1 B H1 Q I1 q1
 | true=>exact⟨.bl true,H1,I1,rfl,q1⟩
theorem zRF (ha:PE X a ta):PE X (.UnaryOp .Not a pos) (zTV ta):=by
 intro pins s B H Q I h;refine UnaryOp_ (thn (ha pins s B H _ I h) λv s1 zz8=>?_);obtain⟨x,H1,I1,r1,q1⟩:=zz8;obtain⟨c,rfl,q1⟩:=q1;cases r1;exact not_of (wpAny_truthy_bool ⟨.bl _,H1,I1,rfl,q1⟩)
def tIf (t:TT)(ta tb:TE):TE:=λB H Q=>t B H λc H1=>if c=true then ta B H1 Q else tb B H1 Q
theorem zL9 (hc:PT X c tA)(ha:PE X a ta)(hb:PE X b tb):PE X (.IfExp c a b pos) (tIf tA ta tb):=by
 intro pins s B H Q I h;refine wpAny_IfExp (thn (hc pins s B H _ I h) λd s1 zz9=>?_);obtain⟨H1,I1,q1⟩:=zz9;cases d with
 | true=>exact ha pins s1 B H1 Q I1 q1
 | false=>exact hb pins s1 B H1 Q I1 q1
end
def SqL (K:W.Frag)(H:Hp)(a:Addr)(xs:List V):Prop :=
 Rd H a (.lst xs) \/
  ∃ (o:Obj) (its:Array Value) (n:Nat),K.lookup a=some o/\o.cls=.type "list"/\o.dict=none/\o.data=.seq its n/\its.size<=sizeLine/\Vals xs its.toList
def SqT (K:W.Frag)(H:Hp)(a:Addr)(xs:List V):Prop :=
 Rd H a (.tup xs) \/
  ∃ (o:Obj) (its:Array Value) (n:Nat),K.lookup a=some o/\o.cls=.type "tuple"/\o.data=.seq its n/\its.size<=sizeLine/\Vals xs its.toList
noncomputable def absV:Value->Option V
 | .none=>some .non
 | .bool b=>some (.bl b)
 | .int i _=>some (.int i)
 | .str x _=>some (.str x)
 | .bytes b _=>some (.byt b)
 | .float b _=>some (.flt b)
 | .ref a=>some (.ref a)
 | .type n=>some (.ty n)
 | _=>none
theorem RelV.abs (r:RelV x u):absV u=some x:=by
 cases x with
 | non=>cases r;rfl
 | bl _=>cases r;rfl
 | int _=>obtain⟨t,rfl⟩:=r;rfl
 | str _=>obtain⟨t,rfl⟩:=r;rfl
 | byt _=>obtain⟨t,rfl⟩:=r;rfl
 | flt _=>obtain⟨t,rfl⟩:=r;rfl
 | ref _=>cases r;rfl
 | ty _=>cases r;rfl
theorem RelV.inj (r:RelV x u)(q:RelV y u):x=y:=xX (r.abs.symm.trans q.abs)
theorem Vals.inj:∀ {xs ys:List V} {us:List Value},Vals xs us->Vals ys us->xs=ys
 | _,_,_,.nil,.nil=>rfl
 | _,_,_,.cons r t,.cons r' t'=>by rw[r.inj r',Vals.inj t t']
section
variable {X:Cx}{pins:List (Addr×Obj)}{B:St}{H:Hp}{s:Shared}{a:Addr}{xs ys:List V}
theorem SqL.of {K:W.Frag}(h:H a=some (.lst xs)):SqL K H a xs:=.inl (.inl h)
theorem SqT.of {K:W.Frag}(h:H a=some (.tup xs)):SqT K H a xs:=.inl (.inl h)
theorem Inv.list (I:Inv X pins B H s)(h:SqL X.K H a xs):∃ its:List Value,Vals xs its/\PlainL s.heap a its.toArray/\xs.length<=sizeLine:=by
 rcases h with h | ⟨o,its,n,hk,hc,hd,hs,hz,r⟩
 .obtain ⟨z,its,n,r,e⟩:=h.ok I.hok;exact⟨its,r,⟨_,n,e,rfl,rfl,rfl⟩,z⟩
 .refine ⟨its.toList,r,⟨o,n,I.kIn a o hk,hc,hd,by simpa using hs⟩,?_⟩;have e:=r.length;grind
theorem Inv.tuple (I:Inv X pins B H s)(h:SqT X.K H a xs):∃ its:List Value,Vals xs its/\IsTup s.heap a its.toArray/\xs.length<=sizeLine:=by
 rcases h with h | ⟨o,its,n,hk,hc,hs,hz,r⟩
 .obtain ⟨z,its,r,p⟩:=h.ok I.hok;exact⟨its,r,p,z⟩
 .refine ⟨its.toList,r,⟨o,I.kIn a o hk,hc,n,by simpa using hs⟩,?_⟩;have e:=r.length;grind
theorem Inv.list_inj (I:Inv X pins B H s)(h:SqL X.K H a xs)(h':SqL X.K H a ys):xs=ys:=by
 obtain⟨its,r,⟨o,n,e,_,_,d⟩,_⟩:=I.list h;obtain⟨its',r',⟨o',n',e',_,_,d'⟩,_⟩:=I.list h'
 simp_all
 exact r.inj r'
theorem Inv.tuple_inj (I:Inv X pins B H s)(h:SqT X.K H a xs)(h':SqT X.K H a ys):xs=ys:=by
 obtain⟨its,r,⟨o,e,_,n,d⟩,_⟩:=I.tuple h;obtain⟨its',r',⟨o',e',_,n',d'⟩,_⟩:=I.tuple h'
 simp_all
 exact r.inj r'
end
abbrev Cx.wish (X:Cx) (E:Value->Shared->Prop):Cx:={ X with xe:=E }
abbrev Cx.nox (X:Cx):Cx:=X.wish λ_ _=>False
theorem Cx.Ok.wish {X:Cx}(ok:X.Ok)(E:Value->Shared->Prop):(X.wish E).Ok :=
 ⟨ok.mod,ok.kind,ok.glob,ok.blt,ok.above,ok.inj,ok.has,ok.cab,ok.hd,ok.frames,ok.stk,ok.exf,ok.bs,ok.bsz,ok.noex,ok.exfs,ok.funs,ok.frf,ok.pyl,ok.tabs⟩
theorem Cx.Ok.unwish {X:Cx}(ok:(X.wish E).Ok):X.Ok :=
 ⟨ok.mod,ok.kind,ok.glob,ok.blt,ok.above,ok.inj,ok.has,ok.cab,ok.hd,ok.frames,ok.stk,ok.exf,ok.bs,ok.bsz,ok.noex,ok.exfs,ok.funs,ok.frf,ok.pyl,ok.tabs⟩
section
variable {X:Cx}{pins:List (Addr×Obj)}{B:St}{H:Hp}{s:Shared}{E:Value->Shared->Prop}
theorem Inv.wish (I:Inv X pins B H s)(E:Value->Shared->Prop):Inv (X.wish E) pins B H s:=⟨I.ok.wish E,I.os,I.bare,I.base,I.loc,I.cell,I.free,I.freeC,I.pin,I.hok,I.len⟩
theorem Inv.unwish (I:Inv (X.wish E) pins B H s):Inv X pins B H s:=⟨I.ok.unwish,I.os,I.bare,I.base,I.loc,I.cell,I.free,I.freeC,I.pin,I.hok,I.len⟩
theorem SP.unwish (h:SP (X.wish E) pins D f s'):SP X pins D f s':=by
 cases f with
 | next=>obtain⟨B',H',I,q⟩:=h;exact⟨B',H',I.unwish,q⟩
 | brk=>obtain⟨B',H',I,q⟩:=h;exact⟨B',H',I.unwish,q⟩
 | cont=>obtain⟨B',H',I,q⟩:=h;exact⟨B',H',I.unwish,q⟩
 | ret u=>obtain⟨v,B',H',I,r,q⟩:=h;exact⟨v,B',H',I.unwish,r,q⟩
theorem PE.nox (h:PE X.nox e t):PE X e t:=λpins s B H Q I hw =>
 wpAny_mono (h pins s B H Q (I.wish _) hw) (λ_ _ zy124=>by obtain⟨v,H',I',r,q⟩:=zy124;exact⟨v,H',I'.unwish,r,q⟩) λ_ _ z=>False.elim z
theorem PSs.nox {st:List Stmt}(h:PSs X.nox st t):PSs X st t:=λpins s B H D I hw =>
 wpAny_mono (h pins s B H D (I.wish _) hw) (λ_ _ q=>q.unwish) λ_ _ z=>False.elim z
end
section
variable {X:Cx}{st:Stmt}{rest:List Stmt}{t u:TS}{e:Expr}{te:TE}{pos:Pos}
def zTW:TS:=λD B H=>D.nx B H
def tSeq (t u:TS):TS:=λD B H=>t { D with nx:=u D } B H
theorem zGk:PSs X [] zTW:=λ_ _ B H _ I h=>wpAny_execs_nil ⟨B,H,I,h⟩
theorem zFK (h1:PS X st t)(h2:PSs X rest u):PSs X (st::rest) (tSeq t u):=by
 intro pins s B H D I h;refine wpAny_execs_cons (thn (h1 pins s B H { D with nx:=u D } I h) λf s1 q=>?_);cases f with
 | next =>
  obtain⟨B',H',I',q⟩:=q;exact h2 pins s1 B' H' D I' q
 | ret v=>exact q
 | brk=>exact q
 | cont=>exact q
theorem Inv.quiet {pins:List (Addr×Obj)}{B:St}{H:Hp}{s:Shared}(I:Inv X pins B H s):interactive X.env=false:=by simp[interactive,I.ok.kind]
def zTX (te:TE):TS:=λD B H=>te B H λ_ H1=>D.nx B H1
theorem zGl (he:PE X e te)(hs:swapsWith e none pos.line X.env=pure false:=by rfl):PS X (.Expr e pos) (zTX te):=by
 intro pins s B H D I h;exact wpAny_Expr_any (thn (he pins s B H _ I h) λv s1 zy125=>by obtain⟨x,H1,I1,r1,q1⟩:=zy125;exact⟨B,H1,I1,q1⟩) I.quiet hs
def tRet (te:TE):TS:=λD B H=>te B H D.rt
theorem zJW (he:PE X e te):PS X (.Return (some e) pos) (tRet te):=by
 intro pins s B H D I h;exact wpAny_Return_some (thn (he pins s B H _ I h) λv s1 zy126=>by obtain⟨x,H1,I1,r1,q1⟩:=zy126;exact⟨x,B,H1,I1,r1,q1⟩)
def tIfS (c:TT)(t u:TS):TS:=λD B H=>c B H λb H1=>if b=true then t D B H1 else u D B H1
theorem zQ7 (hc:PT X c tc)(ha:PSs X a t)(hb:PSs X b u):PS X (.If c a b pos) (tIfS tc t u):=by
 intro pins s B H D I h;refine wpAny_If (thn (hc pins s B H _ I h) λd s1 zz10=>?_);obtain⟨H1,I1,q1⟩:=zz10;cases d with
 | true=>exact ha pins s1 B H1 D I1 q1
 | false=>exact hb pins s1 B H1 D I1 q1
def zQo:TS:=λ_ _ _=>False
theorem zFL:PS X st zQo:=λ_ _ _ _ _ _ h=>h.elim
end
abbrev TG:=V->St->Hp->(St->Hp->Prop)->Prop
def PG (X:Cx)(target:Expr)(t:TG):Prop :=
 ∀ (pins:List (Addr×Obj)) (s:Shared) (B:St) (H:Hp) (v:V) (u:Value) (Q:St->Hp->Prop),Inv X pins B H s->RelV v u->t v B H Q ->
  wpAny (model X.prog X.w) X.A (assign target X.env u) (λ_ s'=>∃ B' H',Inv X pins B' H' s'/\Q B' H') X.xe s
abbrev TSet:=V->V->V->Hp->(Hp->Prop)->Prop
def PSet (X:Cx)(t:TSet):Prop :=
 ∀ (pins:List (Addr×Obj)) (s:Shared) (B:St) (H:Hp) (o i v:V) (ov iv u:Value) (Q:Hp->Prop),Inv X pins B H s->RelV o ov->RelV i iv->RelV v u->t o i v H Q ->
  wpAny (model X.prog X.w) X.A (setItem ov iv u) (λ_ s'=>∃ H',Inv X pins B H' s'/\Q H') X.xe s
abbrev TIp:=V->V->Hp->VK->Prop
def PIp (X:Cx)(op:Operator)(t:TIp):Prop :=
 ∀ (pins:List (Addr×Obj)) (s:Shared) (B:St) (H:Hp) (x y:V) (v u:Value) (Q:VK),Inv X pins B H s->RelV x v->RelV y u->t x y H Q ->
  wpAny (model X.prog X.w) X.A (inplaceOp op v u) (EP X pins B Q) X.xe s
section
variable {X:Cx}{pos:Pos}
def zSe (i:Nat):TG:=λv B H Q=>Q (B.set i (some v)) H
theorem zFN (hN:X.N.Nodup)(hi:X.N[i]?=some x)(hx:Loc X.env.scope x)(hf:X.fn x=true\/X.env.scope.names.lookup x=some .local:=by first | exact .inl rfl | exact .inr rfl | assumption):PG X (.Name x pos) (zSe i):=by
 intro pins s B H v u Q I r h;exact wpAny_assign_Name (zFC I hN hi hx r (λs' I'=>⟨_,H,I',h⟩) hf)
def gSub (to ti:TE)(t:TSet):TG:=λv B H Q=>to B H λo H1=>ti B H1 λi H2=>t o i v H2 λH3=>Q B H3
theorem zRB (ho:PE X o to)(hi:PE X i ti)(hs:PSet X t)
  (ha:∀ v,assign (.Subscript o i pos) X.env v=(do
   let ov<-holding [v] (eval o X.env)
   let iv<-holding [v,ov] (eval i X.env)
   standAt pos
   holding [v,ov,iv] (setItem ov iv v)
   release [v,ov,iv] []):=by intro _;rfl):PG X (.Subscript o i pos) (gSub to ti t):=by
 intro pins s B H v u Q I r h;rw[ha];refine qX (wpAny_holding (thn (ho pins s B H _ I h) λov s1 zz11=>?_));obtain⟨x,H1,I1,r1,q1⟩:=zz11;refine qX (wpAny_holding (thn (hi pins s1 B H1 _ I1 q1) λiv s2 zz12=>?_));obtain⟨y,H2,I2,r2,q2⟩:=zz12;refine qX (wpAny_standAt (qX (wpAny_holding (thn (hs pins s2 B H2 x y v ov iv u _ I2 r1 r2 r q2) λ_ s3 zz13=>?_))));obtain⟨H3,I3,q3⟩:=zz13;exact wpAny_release ⟨B,H3,I3,q3⟩
def tAsg (te:TE)(g:TG):TS:=λD B H=>te B H λx H1=>g x B H1 D.nx
theorem zRA {tg e:Expr}{te:TE}{g:TG}(he:PE X e te)(hg:PG X tg g)(hs:swapsWithSole [tg] e pos.line X.env=pure false:=by rfl)(hw:swappedStores [tg] e X.env=pure none:=by rfl)
  (h1:(assignEach [tg] X.env).map (·.2)=[assign tg X.env]:=by rfl):PS X (.Assign [tg] e pos) (tAsg te g):=by
 intro pins s B H D I h;refine wpAny_Assign_stores (thn (he pins s B H _ I h) λv s1 zz14=>?_) hs hw;obtain⟨x,H1,I1,r1,q1⟩:=zz14;rw[h1];exact thn (hg pins s1 B H1 x v _ I1 r1 q1) λ_ s2 q=>q
theorem zNm (hN:X.N.Nodup)(hi:X.N[i]?=some x)(hx:Loc X.env.scope x)(he:PE X e te)(hs:swapsWith e (some (.Name x pos')) pos.line X.env=pure false:=by rfl)(hf:X.fn x=true\/X.env.scope.names.lookup x=some .local:=by first | exact .inl rfl | exact .inr rfl | assumption) :
  PS X (.Assign [.Name x pos'] e pos) (tAsg te (zSe i)):=by
 intro pins s B H D I h;refine wpAny_Assign_Name (thn (he pins s B H _ I h) λv s1 zz15=>?_) hs;obtain⟨y,H1,I1,r1,q1⟩:=zz15;exact zFC I1 hN hi hx r1 (λs2 I2=>⟨_,H1,I2,q1⟩) hf
def tAug (i:Nat)(te:TE)(ti:TIp):TS:=λD B H=>∃ x,B[i]?=some (some x)/\te B H λy H1=>ti x y H1 λz H2=>D.nx (B.set i (some z)) H2
theorem zQ9 (hN:X.N.Nodup)(hi:X.N[i]?=some x)(hx:Loc X.env.scope x)(he:PE X e te)(ho:PIp X op ti)(hf:X.fn x=true\/X.env.scope.names.lookup x=some .local:=by first | exact .inl rfl | exact .inr rfl | assumption) :
  PS X (.AugAssign (.Name x pos') op e pos) (tAug i te ti):=by
 intro pins s B H D I h;obtain⟨v,e1,h⟩:=h;obtain⟨m,hn,hl⟩:=I.loc;obtain⟨u,r,l⟩:=hl i x v hi e1 (by rcases hx with k | k;exact .inl k;exact .inr (.inl k));refine wpAny_AugAssign_Name ?_;have go:wpAny (model X.prog X.w) X.A (eval e X.env) (λw O8=>wpAny (model X.prog X.w) X.A (inplaceOp op u w) (λr Y2=>wpAny (model X.prog X.w) X.A (storeName X.env x r) (λ_=>SP X pins D .next) X.xe Y2) X.xe O8) X.xe s:=by
  refine thn (he pins s B H _ I h) λw s1 zz16=>?_
  obtain⟨y,H1,I1,r1,q1⟩:=zz16;refine thn (ho pins s1 B H1 v y u w _ I1 r r1 q1) λz s2 zz17=>?_
  obtain⟨zv,H2,I2,r2,q2⟩:=zz17;exact zFC I2 hN hi hx r2 (λs3 I3=>⟨_,H2,I3,q2⟩) hf
 rcases l with ⟨hk,hm⟩ | ⟨hk,c,hc,hcell⟩
 .exact wpAny_loadName_local I.ok.kind hk hn hm go
 .rcases hk with hk | hk
  .exact wpAny_loadName_cell I.ok.kind hk hc hcell go
  .rcases hx with k | k
   .have:X.env.scope.names.lookup x=some .free:=hk;rw[k] at this;cases this
   .have:X.env.scope.names.lookup x=some .free:=hk;rw[k] at this;cases this
end
section
variable {X:Cx}{pos:Pos}
def zQm (c:TT)(tb:TS):TS:=λD B H=>∃ W:Nat->St->Hp->Prop,(∃ m,W m B H)/\∀ m B H,W m B H ->
 c B H λb H1=>if b=true then ∃ N:St->Hp->Prop,(∀ B' H',N B' H'->∃ m',m' < m/\W m' B' H')/\tb { D with nx:=N,ct:=N,bk:=D.nx } B H1 else D.nx B H1
theorem zL6 (hp:PassesOwn (model X.prog X.w) X.A X.env X.xe)(hc:PT X c tc)(hb:PSs X body tb):PS X (.While c body [] pos) (zQm tc tb):=by
 intro pins s B H D I h;obtain⟨W,⟨m0,w0⟩,turn⟩:=h;refine wpAny_While (codeAny_whileLoop (λn s'=>∃ B' H',Inv X pins B' H' s'/\W n B' H') ?_ m0 ⟨B,H,I,w0⟩);rintro n s1 ⟨O6,H1,I1,w1⟩;refine wpAny_passesOwn hp (thn (hc pins s1 O6 H1 _ I1 (turn n O6 H1 w1)) λb s2 zz18=>?_);obtain⟨H2,I2,q2⟩:=zz18;cases b with
 | true =>
  obtain⟨N,hN,q2⟩:=q2;refine wpAny_passesOwn hp (thn (hb pins s2 O6 H2 _ I2 q2) λf s3 q3=>?_);cases f with
  | next =>
   obtain⟨B3,H3,I3,n3⟩:=q3;obtain⟨m',hm,w3⟩:=hN B3 H3 n3;exact⟨m',hm,B3,H3,I3,w3⟩
  | cont =>
   obtain⟨B3,H3,I3,n3⟩:=q3;obtain⟨m',hm,w3⟩:=hN B3 H3 n3;exact⟨m',hm,B3,H3,I3,w3⟩
  | brk=>exact q3
  | ret v=>exact q3
 | false =>
  exact wpAny_execs_nil ⟨O6,H2,I2,q2⟩
end
structure It where
 go:Nat->Hp->Prop
 yld:Nat->Hp->V->Hp->Prop
 stop:Nat->Hp->Prop
def FpOk (X:Cx)(pins:List (Addr×Obj))(H:Hp)(b:Addr):Prop :=
 H b=none/\b≠X.env.locals/\b∉X.fs/\(b∈X.ex\/X.s0.heap.objs.size<=b)/\(∀ x c,X.env.cells.lookup x=some c->c≠b)/\∀ p∈X.pn++pins,p.1≠b
theorem Inv.fpOk {X:Cx}{pins:List (Addr×Obj)}{B:St}{H H':Hp}{s:Shared}{b:Addr}(I:Inv X pins B H s)(hb:s.heap.objs.size<=b)(hn:H' b=none):FpOk X pins H' b:=by
 refine⟨hn,Nat.ne_of_gt (xY I.lt hb),I.nofs hb,.inr (le_trans I.sz hb),λx c e z=>?_,λp hp z=>?_⟩
 .obtain ⟨v,q⟩:=I.cell x c e;exact absurd (xY q.lt (by simp_all)) (lt_irrefl _)
 .exact absurd (xY (lt_size (I.pin p hp).1) (by simp_all)) (lt_irrefl _)
structure Turn (P:Program)(w:World)(K:W.Frag)(tg:Expr)(J:It)(fp:List Addr)(it:Addr)(tn:Nat->Heap->Prop):Prop where
 mem:it∈fp
 obj:∀ i h,tn i h->∀ b∈fp,∃ o,h.get? b=some o/\∀ v,o.data≠.cell v
 keep:∀ i h h',tn i h->(∀ b∈fp,∀ o,h.get? b=some o->h'.get? b=some o)->tn i h'
 item:∀ (X:Cx),X.prog=P->X.w=w->X.K=K->X.calm=true->∀ (i:Nat) (pins:List (Addr×Obj)) (s:Shared) (B:St) (H:Hp) (E:Value->Shared->Prop),Inv X pins B H s->(∀ b∈fp,FpOk X pins H b)->tn i s.heap->J.go i H ->
  wpAny (model P w) X.A (pyNext (.ref it)) (λr s1=>∃ u,r=some u /\
   wpAny (model P w) X.A (letOwnedTupleGo tg (.ref it) u) (λ_ s2=>∃ x H',Inv X pins B H' s2/\RelV x u/\J.yld i H x H'/\tn (i+1) s2.heap/\∀ b∈fp,H' b=none) E s1) E s
 done:∀ (X:Cx),X.prog=P->X.w=w->X.K=K->X.calm=true->∀ (i:Nat) (pins:List (Addr×Obj)) (s:Shared) (B:St) (H:Hp) (E:Value->Shared->Prop),Inv X pins B H s->(∀ b∈fp,FpOk X pins H b)->tn i s.heap->J.stop i H ->
  wpAny (model P w) X.A (pyNext (.ref it)) (λr s1=>r=none/\Inv X pins B H s1) E s
 self:∀ (A:Around) (i:Nat) (s:Shared) (Q:Value->Shared->Prop) (E:Value->Shared->Prop),tn i s.heap->Q (.ref it) s->wpAny (model P w) A (pyIter (.ref it)) Q E s
abbrev TI:=St->Hp->(It->Hp->Prop)->Prop
def PIE (X:Cx)(pins:List (Addr×Obj))(B:St)(tg:Expr)(R:It->Hp->Prop)(itv:Value)(s2:Shared):Prop :=
 ∃ (it:Addr) (fp:List Addr) (tn:Nat->Heap->Prop) (J:It) (H':Hp),itv=.ref it/\Inv X pins B H' s2/\Turn X.prog X.w X.K tg J fp it tn/\tn 0 s2.heap/\(∀ b∈fp,FpOk X pins H' b)/\R J H'
def PI (X:Cx)(tg iter:Expr)(wi:TI):Prop :=
 ∀ (pins:List (Addr×Obj)) (s:Shared) (B:St) (H:Hp) (R:It->Hp->Prop),Inv X pins B H s->wi B H R ->
  wpAny (model X.prog X.w) X.A (eval iter X.env) (λv s1=>wpAny (model X.prog X.w) X.A (pyIter v) (PIE X pins B tg R) X.xe s1) X.xe s
theorem zMi (ho:s.heap.get? it=some o)(hc:o.cls=.type n)(hd:o.data=.fields vs)
  (hn:["enumerate","zip","dict_itemiterator","dict_reverseitemiterator","odict_iterator","itertools.zip_longest","itertools.pairwise"].contains n=false) (hQ:Q () s):wpAny M A (letOwnedTupleGo tg (.ref it) u) Q E s:=by
 cases tg<;>first
  | exact xy hQ
  | cases u<;>first
    | exact xy hQ
    | (refine qX (wpAny_load ho ?_);rw[hc,hd];show wpAny M A (if _=true then _ else _) Q E s;rw[if_neg (by grind)];exact xy hQ)
noncomputable def Itl (K:W.Frag)(a:Addr):It :=
 ⟨λi H=>∃ xs x,SqL K H a xs/\xs[i]?=some x,λi H x H'=>H'=H/\∀ xs,SqL K H a xs->xs[i]?=some x,λi H=>∃ xs,SqL K H a xs/\xs.length<=i⟩
noncomputable def Itt (K:W.Frag)(a:Addr):It :=
 ⟨λi H=>∃ xs x,SqT K H a xs/\xs[i]?=some x,λi H x H'=>H'=H/\∀ xs,SqT K H a xs->xs[i]?=some x,λi H=>∃ xs,SqT K H a xs/\xs.length<=i⟩
noncomputable def Itr (lo:Int)(n:Nat):It:=⟨λi _=>i < n,λi H x H'=>H'=H/\x=.int (lo+i),λi _=>n<=i⟩
theorem zI1 {P:Program}{w:World}{K:W.Frag}{tg:Expr}(a it:Addr):Turn P w K tg (Itl K a) [it] it (λi h=>h.IsListIter it a i) where
 mem:=by simp
 obj:=λi h st b hb=>by
  have e:b=it:=by simpa using hb
  subst e;obtain⟨o,e,c,d⟩:=st;exact⟨o,e,λv z=>by rw[d] at z;cases z⟩
 keep:=λi h h' st k=>st.at λo e=>k it (by simp) o e
 item:=by
  intro X hP hw hK hc i pins s B H E I hf st hg;subst hP hw hK;obtain⟨xs,x,hq,hx⟩:=hg;obtain⟨its,rv,p,hz⟩:=I.list hq;obtain⟨u,hu,ru⟩:=rv.get hx;obtain⟨f0,f1,f2,f3,f4,f5⟩:=hf it (by simp);refine wpAny_pyNext_list_item st p.isList (x:=u) (by simpa using hu) λh' st' sb=>?_
  have I1:Inv X pins B H { s with heap:=h' }:=I.turned (t':=s.toks) (λb o hb e=>(sb.2 b hb).trans e) f0 f1 f3 f4 f5;obtain⟨o,e,c,d⟩:=id st';exact⟨u,rfl,zMi (s:={ s with heap:=h' }) e c d (by decide) ⟨x,H,I1,ru,⟨rfl,λys hy=>by rw[I.list_inj hy hq];exact hx⟩,st',λb hb=>(hf b hb).1⟩⟩
 done:=by
  intro X hP hw hK hc i pins s B H E I hf st hg;subst hP hw hK;obtain⟨xs,hq,hx⟩:=hg;obtain⟨its,rv,p,hz⟩:=I.list hq;obtain⟨f0,f1,f2,f3,f4,f5⟩:=hf it (by simp);have hl:=rv.length;exact wpAny_pyNext_list_end (I.ok.hd hc) st p.isList (by simp;omega) λh' eb=>⟨rfl,I.turned (t':=s.toks) (λb o hb e=>eb b o hb e) f0 f1 f3 f4 f5⟩
 self:=λ_ _ _ _ _ st h=>wpAny_pyIter_listiter st h
theorem zIJ {P:Program}{w:World}{K:W.Frag}{tg:Expr}(a it:Addr):Turn P w K tg (Itt K a) [it] it (λi h=>h.IsTupleIter it a i) where
 mem:=by simp
 obj:=λi h st b hb=>by
  have e:b=it:=by simpa using hb
  subst e;obtain⟨o,e,c,d⟩:=st;exact⟨o,e,λv z=>by rw[d] at z;cases z⟩
 keep:=λi h h' st k=>st.at λo e=>k it (by simp) o e
 item:=by
  intro X hP hw hK hc i pins s B H E I hf st hg;subst hP hw hK;obtain⟨xs,x,hq,hx⟩:=hg;obtain⟨its,rv,p,hz⟩:=I.tuple hq;obtain⟨u,hu,ru⟩:=rv.get hx;obtain⟨f0,f1,f2,f3,f4,f5⟩:=hf it (by simp);refine wpAny_pyNext_tuple_item st (show s.heap.IsTuple a its.toArray from p) (x:=u) (by simpa using hu) λh' st' sb=>?_
  have I1:Inv X pins B H { s with heap:=h' }:=I.turned (t':=s.toks) (λb o hb e=>(sb.2 b hb).trans e) f0 f1 f3 f4 f5;obtain⟨o,e,c,d⟩:=id st';exact⟨u,rfl,zMi (s:={ s with heap:=h' }) e c d (by decide) ⟨x,H,I1,ru,⟨rfl,λys hy=>by rw[I.tuple_inj hy hq];exact hx⟩,st',λb hb=>(hf b hb).1⟩⟩
 done:=by
  intro X hP hw hK hc i pins s B H E I hf st hg;subst hP hw hK;obtain⟨xs,hq,hx⟩:=hg;obtain⟨its,rv,p,hz⟩:=I.tuple hq;obtain⟨f0,f1,f2,f3,f4,f5⟩:=hf it (by simp);have hl:=rv.length;exact wpAny_pyNext_tuple_end (I.ok.hd hc) st (show s.heap.IsTuple a its.toArray from p) (by simp;omega) λh' eb=>⟨rfl,I.turned (t':=s.toks) (λb o hb e=>eb b o hb e) f0 f1 f3 f4 f5⟩
 self:=λ_ _ _ _ _ st h=>wpAny_pyIter_tupleiter st h
theorem zIK {P:Program}{w:World}{K:W.Frag}{tg:Expr}(it:Addr)(lo:Int)(n:Nat):Turn P w K tg (Itr lo n) [it] it (λi h=>IsRangeIter h it (lo+(i:Nat)*1) ((n:Int) - (i:Nat)) 1) where
 mem:=by simp
 obj:=λi h st b hb=>by
  simp_all
 keep:=λi h h' st k=>k it (by simp) _ st
 item:=by
  intro X hP hw hK hc i pins s B H E I hf st hg;subst hP hw hK;obtain⟨f0,f1,f2,f3,f4,f5⟩:=hf it (by simp);have W:=Walks.range (prog:=X.prog) (w:=X.w) (I.ok.hd hc) it lo 1 n;refine W.item i s _ _ hg st λv h' tk hv st' kk=>?_
  obtain⟨t,rfl⟩:=hv;have I1:Inv X pins B H { s with heap:=h',toks:=tk }:=I.turned (λb o hb e=>kk b o (by simpa using hb) e) f0 f1 f3 f4 f5;refine⟨_,rfl,zMi (s:={ s with heap:=h',toks:=tk }) (n := "range_iterator") st' rfl rfl (by decide) ⟨.int (lo+i),H,I1,⟨t,?_⟩,⟨rfl,rfl⟩,st',λb hb=>(hf b hb).1⟩⟩;rw[Int.mul_one]
 done:=by
  intro X hP hw hK hc i pins s B H E I hf st hg;subst hP hw hK;obtain⟨f0,f1,f2,f3,f4,f5⟩:=hf it (by simp);exact wpAny_pyNext_range_end (I.ok.hd hc) st (by have:n<=i:=hg;omega) λh' eb=>⟨rfl,I.turned (t':=s.toks) (λb o hb e=>eb b o hb e) f0 f1 f3 f4 f5⟩
 self:=λ_ _ _ _ _ st h=>wpAny_pyIter_rangeiter st h
section
variable {X:Cx}{tg:Expr}
theorem zHY {lo:Int}(I:Inv X pins B H s)(h1:-(2^62)<=lo)(h2:lo < 2^62)(h3:-(2^62)<=hi)(h4:hi < 2^62)
  (q:R (Itr lo (hi - lo).toNat) H):wpAny (model X.prog X.w) X.A (pyIter (.ref s.heap.objs.size)) (PIE X pins B tg R) E { s with heap:=s.heap.push { cls:=.type "range",data:=.fields #[.int lo t,.int hi u,.int 1 v] },toks:=tk }:=by
 refine wpAny_pyIter_range (IsRange.new ..) (small_one h1 h2 h3 h4) ?_;have I1:Inv X pins B H { s with heap:=s.heap.push { cls:=.type "range",data:=.fields #[.int lo t,.int hi u,.int 1 v] },toks:=tk }:=I.kept λb o e=>get?_push_of_some _ e
 refine⟨(s.heap.push { cls:=.type "range",data:=.fields #[.int lo t,.int hi u,.int 1 v] }).objs.size,[(s.heap.push { cls:=.type "range",data:=.fields #[.int lo t,.int hi u,.int 1 v] }).objs.size],_,_,H,rfl,
  I1.kept λb o e=>get?_push_of_some _ e,zIK _ lo (hi - lo).toNat,?_,λb hb=>?_,q⟩
 .have e1:lo+((0:Nat):Int)*1=lo:=by simp
  have e2:(((hi - lo).toNat:Nat):Int) - ((0:Nat):Int)=Builtin.Range.rangeSize lo hi 1:=by rw[rangeSize_one];split<;>omega
  rw[e1,e2];exact get?_push_size _ rfl
 .have e:b=(s.heap.push { cls:=.type "range",data:=.fields #[.int lo t,.int hi u,.int 1 v] }).objs.size:=by simpa using hb
  subst e;exact I1.fpOk (le_refl _) (I1.hok.fresh (le_refl _))
def zT3 (ta:TA):TI:=λB H R=>ta B H λvs H1=>∃ j:Int,vs=[.int j]/\-(2^62)<=j/\j < 2^62/\R (Itr 0 j.toNat) H1
def zT2 (ta:TA):TI:=λB H R=>ta B H λvs H1=>∃ i j:Int,vs=[.int i,.int j]/\(-(2^62)<=i/\i < 2^62/\-(2^62)<=j/\j < 2^62)/\R (Itr i (j - i).toNat) H1
theorem zFy (hg:Gl X "range")(hm:X.mg "range"=none)(ha:PA X [a] ta)(hs:starEach [a] X.env=[(false,eval a X.env)]:=by rfl):PI X tg (.Call (.Name "range" p) [a] [] pos) (zT3 ta):=by
 intro pins s B H R I h;refine Call_ (zCe I hg hm boot_range (PyProof.Rows.callWith_type1 (thn (ha pos pins s B H _ I h) λus s1 zz19=>?_) hs rfl));obtain⟨vs,H1,I1,r1,q1⟩:=zz19;obtain⟨j,e,q1,q2,q⟩:=q1;subst e;cases r1 with
 | cons r rr =>
  cases rr;obtain⟨t,rfl⟩:=r;exact call_range_1 (zHY I1 (by omega) (by omega) q1 q2 (by simp_all))
theorem zJa {a b:Expr}{ta:TA}{p pos:Pos}(hg:Gl X "range")(hm:X.mg "range"=none)(ha:PA X [a,b] ta)(hs:starEach [a,b] X.env=[(false,eval a X.env),(false,eval b X.env)]:=by rfl)(hs2:starEach [b] X.env=[(false,eval b X.env)]:=by rfl) :
  PI X tg (.Call (.Name "range" p) [a,b] [] pos) (zT2 ta):=by
 intro pins s B H R I h;refine Call_ (zCe I hg hm boot_range (PyProof.Rows.callWith_type1 (thn (ha pos pins s B H _ I h) λus s1 zz20=>?_) (by simp_all) (by rw[hs2];rfl)));obtain⟨vs,H1,I1,r1,q1⟩:=zz20;obtain⟨i,j,e,⟨q1,q2,q3,q4⟩,q⟩:=q1;subst e;cases r1 with
 | cons r rr =>
  cases rr with
  | cons r' rr =>
   cases rr;obtain⟨t,rfl⟩:=r;obtain⟨t',rfl⟩:=r';exact call_range_2 (zHY I1 q1 q2 q3 q4 q)
def tFor (wi:TI)(g:TG)(tb:TS):TS:=λD B H=>wi B H λJ H1=>∃ W:Nat->Nat->St->Hp->Prop,(∃ m,W 0 m B H1)/\∀ i m B H,W i m B H ->
 (J.stop i H/\D.nx B H)\/(J.go i H/\∃ N:St->Hp->Prop,(∀ B' H',N B' H'->∃ m',m' < m/\W (i+1) m' B' H')/\∀ x H',J.yld i H x H'->g x B H' λY3 H2=>tb { D with nx:=N,ct:=N,bk:=D.nx } Y3 H2)
noncomputable def zB7 (fp:List Addr)(h:Heap):List (Addr×Obj):=fp.filterMap λb=>(h.get? b).map λo=>(b,o)
theorem zCT (hb:b∈fp)(e:h.get? b=some o):(b,o)∈zB7 fp h:=List.mem_filterMap.mpr ⟨b,hb,by rw[e];rfl⟩
theorem zF2 (hp:p∈zB7 fp h):p.1∈fp/\h.get? p.1=some p.2:=by
 obtain⟨b,hb,e⟩:=List.mem_filterMap.mp hp;cases q:h.get? b with
 | none=>rw[q] at e;cases e
 | some o =>
  rw[q] at e;have e':=xX e;subst e';exact⟨hb,q⟩
theorem Inv.pinned {pins:List (Addr×Obj)}{B:St}{H:Hp}{s:Shared}{fp:List Addr}(I:Inv X pins B H s)(hf:∀ b∈fp,FpOk X pins H b)(ho:∀ b∈fp,∃ o,s.heap.get? b=some o/\∀ v,o.data≠.cell v):Inv X (pins++zB7 fp s.heap) B H s :=
 I.pins_of λp hp=>(mem_append.mp hp).elim (λz=>I.pin p (xj _ z)) λz=>by
  obtain⟨hb,e⟩:=zF2 z;obtain⟨f0,f1,f2,_⟩:=hf p.1 hb;obtain _:=ho p.1 hb
  simp_all
theorem Inv.unpinned {pins pl:List (Addr×Obj)}{B:St}{H:Hp}{s:Shared}(I:Inv X (pins++pl) B H s):Inv X pins B H s:=I.pins_of λp hp=>I.pin p (xj _ (List.mem_append_left _ hp))
theorem zNn (hp:PassesOwn (model X.prog X.w) X.A X.env X.xe)(hc:X.calm=true)(hi:PI X tg iter wi)(hg:PG X tg g)(hb:PSs X body tb)
  (hs:∀ x,foldedSetIterable iter X.env x=pure x:=by intro _;rfl):PS X (.For tg iter body [] pos) (tFor wi g tb):=by
 intro pins s B H D I h;refine wpAny_For (thn (hi pins s B H _ I h) λv s1 h1=>thn h1 λitv s2 h2=>?_) hs;obtain⟨it,fp,tn,J,H2,e,I2,T,st2,f2,W,⟨m0,w0⟩,turn⟩:=h2;subst e;have stat:∀ {H':Hp},(∀ b∈fp,H' b=none)->∀ b∈fp,FpOk X pins H' b:=λhn b hb=>⟨hn b hb,(f2 b hb).2⟩
 refine codeAny_forLoop_any (λn s'=>∃ i B' H',Inv X pins B' H' s'/\tn i s'.heap/\(∀ b∈fp,H' b=none)/\W i n B' H') ?_ m0 ⟨0,B,H2,I2,st2,λb hb=>(f2 b hb).1,w0⟩;rintro n s3 ⟨i,B3,H3,I3,st3,fr3,w3⟩;rcases turn i n B3 H3 w3 with ⟨stop,qn⟩ | ⟨go,N,hN,step⟩
 .refine wpAny_passesOwn hp (thn (T.done X rfl rfl rfl hc i pins s3 B3 H3 X.xe I3 (stat fr3) st3 stop) λr s4 zz21=>?_);obtain⟨hr,I4⟩:=zz21;subst hr;exact wpAny_execs_nil ⟨B3,H3,I4,qn⟩
 .refine wpAny_passesOwn hp (thn (T.item X rfl rfl rfl hc i pins s3 B3 H3 X.xe I3 (stat fr3) st3 go) λr s4 zz22=>?_);obtain⟨u,hr,h4⟩:=zz22;subst hr;refine wpAny_passesOwn hp (thn h4 λ_ s5 zz23=>?_);obtain⟨x,H5,I5,r5,y5,st5,fr5⟩:=zz23;have I5':=I5.pinned (stat fr5) (T.obj _ _ st5);refine wpAny_passesOwn hp (thn (hg _ s5 B3 H5 x u _ I5' r5 (step x H5 y5)) λ_ s6 zz24=>?_);obtain⟨B6,H6,I6,q6⟩:=zz24;refine wpAny_passesOwn hp (thn (hb _ s6 B6 H6 _ I6 q6) λf s7 q7=>?_);have again:∀ {B7:St} {H7:Hp},Inv X (pins++zB7 fp s5.heap) B7 H7 s7->N B7 H7->∃ m,m < n/\∃ i B' H',Inv X pins B' H' s7/\tn i s7.heap/\(∀ b∈fp,H' b=none)/\W i m B' H':=λ{B7 H7} I7 n7=>by
   obtain⟨m',hm,w7⟩:=hN B7 H7 n7;refine⟨m',hm,i+1,B7,H7,I7.unpinned,T.keep _ _ _ st5 λb hb o e=>(I7.pin (b,o) (xj _ (xj _ (zCT hb e)))).1,λb hb=>?_,w7⟩;obtain⟨o,e,d⟩:=T.obj _ _ st5 b hb;exact(I7.pin (b,o) (xj _ (xj _ (zCT hb e)))).2.1
  cases f with
  | next=>obtain⟨B7,H7,I7,n7⟩:=q7;exact again I7 n7
  | cont=>obtain⟨B7,H7,I7,n7⟩:=q7;exact again I7 n7
  | brk=>obtain⟨B7,H7,I7,q7⟩:=q7;exact⟨B7,H7,I7.unpinned,q7⟩
  | ret v=>obtain⟨x7,B7,H7,I7,r7,q7⟩:=q7;exact⟨x7,B7,H7,I7.unpinned,r7,q7⟩
end
abbrev R2:=V->V->Hp->VK->Prop
def OpR (X:Cx)(f:Value->Value->Sem Value)(r:R2):Prop :=
 ∀ (pins:List (Addr×Obj)) (s:Shared) (B:St) (H:Hp) (x y:V) (v u:Value) (Q:VK),Inv X pins B H s->RelV x v->RelV y u->r x y H Q ->
  wpAny (model X.prog X.w) X.A (f v u) (EP X pins B Q) X.xe s
def UnR (X:Cx)(f:Value->Sem Value)(r:V->Hp->VK->Prop):Prop :=
 ∀ (pins:List (Addr×Obj)) (s:Shared) (B:St) (H:Hp) (x:V) (v:Value) (Q:VK),Inv X pins B H s->RelV x v->r x H Q ->
  wpAny (model X.prog X.w) X.A (f v) (EP X pins B Q) X.xe s
def zEJ (X:Cx)(f:Value)(r:List V->Hp->VK->Prop):Prop :=
 ∀ (pins:List (Addr×Obj)) (s:Shared) (B:St) (H:Hp) (xs:List V) (us:List Value) (Q:VK),Inv X pins B H s->Vals xs us->r xs H Q ->
  wpAny (model X.prog X.w) X.A (call f us) (EP X pins B Q) X.xe s
def tOp (r:R2)(ta tb:TE):TE:=λB H Q=>ta B H λx H1=>tb B H1 λy H2=>r x y H2 Q
def tUn (r:V->Hp->VK->Prop)(ta:TE):TE:=λB H Q=>ta B H λx H1=>r x H1 Q
def rI (C:Int->Int->Prop)(g:Int->Int->V):R2:=λx y H Q=>∃ i j,x=.int i/\y=.int j/\C i j/\Q (g i j) H
def rI0 (g:Int->Int->V):R2:=λx y H Q=>∃ i j,x=.int i/\y=.int j/\Q (g i j) H
def rU (g:Int->V):V->Hp->VK->Prop:=λx H Q=>∃ i,x=.int i/\Q (g i) H
section
variable {X:Cx}{a b c:Expr}{ta tb tc:TE}{pos:Pos}
theorem binT (ha:PE X a ta)(hb:PE X b tb){R:V->V->Hp->Prop}(I:Inv X pins B H s)
  (h:ta B H λx H1=>tb B H1 λy H2=>R x y H2)  {f:Value->Value->Sem Value}
  (hf:∀ v u s2 x y H2,Inv X pins B H2 s2->RelV x v->RelV y u->R x y H2->wpAny (model X.prog X.w) X.A (f v u) Q X.xe s2) :
  wpAny (model X.prog X.w) X.A (eval a X.env) (λv O3=>wpAny (model X.prog X.w) X.A (eval b X.env) (λu O8=>wpAny (model X.prog X.w) X.A (f v u) Q X.xe O8) X.xe O3) X.xe s:=by
 refine thn (ha pins s B H _ I h) λv s1 zz25=>?_
 obtain⟨x,H1,I1,r1,q1⟩:=zz25;refine thn (hb pins s1 B H1 _ I1 q1) λu s2 zz26=>?_
 obtain⟨y,H2,I2,r2,q2⟩:=zz26;exact hf v u s2 x y H2 I2 r1 r2 q2
theorem zRD (ho:OpR X (binaryOp op) r)(ha:PE X a ta)(hb:PE X b tb):PE X (.BinOp a op b pos) (tOp r ta tb):=by
 intro pins s B H Q I h;exact wpAny_BinOp (binT ha hb I h λv u s2 x y H2 I2 rx ry q=>ho pins s2 B H2 x y v u Q I2 rx ry q)
theorem zTd (ho:UnR X (unaryOp op) r)(ha:PE X a ta):PE X (.UnaryOp op a pos) (tUn r ta):=by
 intro pins s B H Q I h;exact UnaryOp_ (thn (ha pins s B H _ I h) λv s1 zy127=>by obtain⟨x,H1,I1,r1,q1⟩:=zy127;exact ho pins s1 B H1 x v Q I1 r1 q1)
theorem opI {g:Int->Int->Int}
  (rule:∀ (i j:Int) (t u:Tok) (s:Shared) (Q:Value->Shared->Prop) (E:Value->Shared->Prop),C i j->Q (.int (g i j) s.toks) { s with toks:=s.toks+1 }->wpAny (model X.prog X.w) X.A (f (.int i t) (.int j u)) Q E s) :
  OpR X f (rI C λi j=>.int (g i j)):=by
 intro pins s B H x y v u Q I rx ry h;obtain⟨i,j,rfl,rfl,hc,q⟩:=h;obtain⟨t,rfl⟩:=rx;obtain⟨t',rfl⟩:=ry;exact rule i j t t' s _ _ hc ⟨.int _,H,I.tok _,⟨_,rfl⟩,q⟩
theorem opI0 {g:Int->Int->Int}
  (rule:∀ (i j:Int) (t u:Tok) (s:Shared) (Q:Value->Shared->Prop) (E:Value->Shared->Prop),Q (.int (g i j) s.toks) { s with toks:=s.toks+1 }->wpAny (model X.prog X.w) X.A (f (.int i t) (.int j u)) Q E s) :
  OpR X f (rI0 λi j=>.int (g i j)):=by
 intro pins s B H x y v u Q I rx ry h;obtain⟨i,j,rfl,rfl,q⟩:=h;obtain⟨t,rfl⟩:=rx;obtain⟨t',rfl⟩:=ry;exact rule i j t t' s _ _ ⟨.int _,H,I.tok _,⟨_,rfl⟩,q⟩
theorem opB0 {g:Int->Int->Bool}
  (rule:∀ (i j:Int) (t u:Tok) (s:Shared) (Q:Value->Shared->Prop) (E:Value->Shared->Prop),Q (.bool (g i j)) s->wpAny (model X.prog X.w) X.A (f (.int i t) (.int j u)) Q E s) :
  OpR X f (rI0 λi j=>.bl (g i j)):=by
 intro pins s B H x y v u Q I rx ry h;obtain⟨i,j,rfl,rfl,q⟩:=h;obtain⟨t,rfl⟩:=rx;obtain⟨t',rfl⟩:=ry;exact rule i j t t' s _ _ ⟨.bl _,H,I,rfl,q⟩
def CPow (i j:Int):Prop:=0<=j/\j<=1000000/\i.natAbs < 2^64
def CMul (i j:Int):Prop:=(-(2^64) < i/\i < 2^64)\/(-(2^64) < j/\j < 2^64)
theorem CMul.ok (h:CMul i j):IntMulOk i j:=by
 rcases h with ⟨h1,h2⟩ | ⟨h1,h2⟩
 .exact .of_left (intBits_le_64 h1 h2)
 .exact .of_right (intBits_le_64 h1 h2)
theorem zNx:OpR X (binaryOp .Add) (rI0 λi j=>.int (i+j)):=opI0 λ_ _ _ _ _ _ _ q=>add_int q
theorem zNt:OpR X (binaryOp .Sub) (rI0 λi j=>.int (i - j)):=opI0 λ_ _ _ _ _ _ _ q=>sub_int q
theorem zJk:OpR X (binaryOp .Mod) (rI (λ_ j=>j≠0) λi j=>.int (i.fmod j)):=opI λ_ _ _ _ _ _ _ hc q=>mod_int' hc q
theorem zNv:OpR X (binaryOp .Pow) (rI CPow λi j=>.int (i^j.toNat)):=opI λ_ _ _ _ _ _ _ hc q=>pow_int_small hc.1 hc.2.1 hc.2.2 q
theorem zPR:OpR X (inplaceOp .Add) (rI0 λi j=>.int (i+j)):=opI0 λ_ _ _ _ _ _ _ q=>iadd_int q
theorem zPQ:OpR X (inplaceOp .Sub) (rI0 λi j=>.int (i - j)):=opI0 λ_ _ _ _ _ _ _ q=>isub_int q
theorem unI {g:Int->Int}
  (rule:∀ (i:Int) (t:Tok) (s:Shared) (Q:Value->Shared->Prop) (E:Value->Shared->Prop),Q (.int (g i) s.toks) { s with toks:=s.toks+1 }->wpAny (model X.prog X.w) X.A (f (.int i t)) Q E s) :
  UnR X f (rU λi=>.int (g i)):=by
 intro pins s B H x v Q I rx h;obtain⟨i,rfl,q⟩:=h;obtain⟨t,rfl⟩:=rx;exact rule i t s _ _ ⟨.int _,H,I.tok _,⟨_,rfl⟩,q⟩
theorem zQh:UnR X (unaryOp .USub) (rU λi=>.int (-i)):=unI λ_ _ _ _ _ q=>neg_int q
end
section
variable {X:Cx}{a b c:Expr}{ta tb tc:TE}{pos:Pos}
theorem zOB {pins:List (Addr×Obj)}{B:St}{H:Hp}{s:Shared}{Q:VK}{k k':Bool}(I:Inv X pins B H s)(q:Q (.bl k) H)(e:k=k'):EP X pins B Q (.bool k') s:=by
 subst e;exact⟨.bl k,H,I,rfl,q⟩
theorem zRP:OpR X (compareOp .Lt) (rI0 λi j=>.bl (decide (i < j))):=opB0 λ_ _ _ _ _ _ _ q=>lt_int q
theorem zRQ:OpR X (compareOp .LtE) (rI0 λi j=>.bl (decide (i<=j))):=opB0 λ_ _ _ _ _ _ _ q=>le_int q
theorem zRS:OpR X (compareOp .Gt) (rI0 λi j=>.bl (decide (j < i))):=opB0 λ_ _ _ _ _ _ _ q=>gt_int q
theorem zRU:OpR X (compareOp .GtE) (rI0 λi j=>.bl (decide (j<=i))):=opB0 λ_ _ _ _ _ _ _ q=>ge_int q
theorem zRR:OpR X (compareOp .Is) (λx y H Q=>y=.non/\Q (.bl (decide (x=.non))) H):=by
 intro pins s B H x y v u Q I rx ry h;obtain⟨rfl,q⟩:=h;cases ry;refine is_none_gen (zOB I q ?_);cases x<;>first
  | rfl
  | obtain⟨t,rfl⟩:=rx;rfl
theorem zOu:OpR X (compareOp .IsNot) (λx y H Q=>y=.non/\Q (.bl (!decide (x=.non))) H):=by
 intro pins s B H x y v u Q I rx ry h;obtain⟨rfl,q⟩:=h;cases ry;refine isnot_none_gen (zOB I q ?_);cases x<;>first
  | rfl
  | obtain⟨t,rfl⟩:=rx;rfl
theorem OpR.or (h:OpR X f r)(h':OpR X f r'):OpR X f (λx y H Q=>r x y H Q\/r' x y H Q):=by
 intro pins s B H x y v u Q I rx ry q;rcases q with q | q
 .exact h pins s B H x y v u Q I rx ry q
 .exact h' pins s B H x y v u Q I rx ry q
theorem zC3 (b:Expr)(h:op≠.In:=by decide)(h2:op≠.NotIn:=by decide):behindInMarks op b=false:=by
 have e1:(op==CmpOp.In)=false:=by cases op<;>first | rfl | exact absurd rfl h
 have e2:(op==CmpOp.NotIn)=false:=by cases op<;>first | rfl | exact absurd rfl h2
 cases b<;>simp[behindInMarks,e1,e2]
theorem zOo (ho:OpR X (compareOp op) r)(ha:PE X a ta)(hb:PE X b tb)(hm:behindInMarks op b=false):PE X (.Compare a [op] [b] pos) (tOp r ta tb):=by
 intro pins s B H Q I h;exact wpAny_Compare1 (binT ha hb I h λv u s2 x y H2 I2 rx ry q=>ho pins s2 B H2 x y v u Q I2 rx ry q) hm
def zQn (t:TE):TT:=λB H Q=>t B H λx H'=>∃ k,x=.bl k/\Q k H'
theorem zOj (ho:OpR X (compareOp op) r)(ha:PE X a ta)(hb:PE X b tb)(hm:behindInMarks op b=false):PT X (.Compare a [op] [b] pos) (zQn (tOp r ta tb)):=by
 intro pins s B H Q I h;refine wpAny_isTrue_Compare1 (thn (ha pins s B H _ I h) λv s1 ⟨x,H1,I1,r1,q1⟩=>thn (hb pins s1 B H1 _ I1 q1) λu s2 ⟨y,H2,I2,r2,q2⟩ =>
  thn (ho pins s2 B H2 x y v u _ I2 r1 r2 q2) λc s3 ⟨z,H3,I3,r3,k,e,q3⟩=>?_) hm
 subst e;cases r3;exact wpAny_truthy_bool ⟨H3,I3,q3⟩
def zI7 (r r':R2)(ta tb tc:TE):TE:=λB H Q=>ta B H λx H1=>tb B H1 λy H2=>r x y H2 λz H3=>∃ k,z=.bl k /\
 (if k=true then tc B H3 λw' H4=>r' y w' H4 Q else Q (.bl false) H3)
theorem zMA (ho:OpR X (compareOp op) r)(ho':OpR X (compareOp op') r')(ha:PE X a ta)(hb:PE X b tb)(hc:PE X c tc)
  (hm:lastMarks [op,op'] [b,c]=false:=by with_unfolding_all rfl):PE X (.Compare a [op,op'] [b,c] pos) (zI7 r r' ta tb tc):=by
 intro pins s B H Q I h;refine Compare_chain (thn (ha pins s B H _ I h) λv s1 ⟨x,H1,I1,r1,q1⟩=>chain_link (thn (hb pins s1 B H1 _ I1 q1) λu s2 ⟨y,H2,I2,r2,q2⟩ =>
  thn (ho pins s2 B H2 x y v u _ I2 r1 r2 q2) λd s3 ⟨z,H3,I3,r3,k,e,q3⟩=>?_)) hm
 subst e;cases r3;refine wpAny_truthy_bool ?_;cases k with
 | false=>exact ite_ff ⟨.bl false,H3,I3,rfl,q3⟩
 | true=>exact ite_tt (chain_last (thn (hc pins s3 B H3 _ I3 q3) λw' s4 zy128=>by obtain⟨z',H4,I4,r4,q4⟩:=zy128;exact ho' pins s4 B H4 y z' u w' Q I4 r2 r4 q4))
theorem zL5 (ho:OpR X (compareOp op) r)(ho':OpR X (compareOp op') r')(ha:PE X a ta)(hb:PE X b tb)(hc:PE X c tc)
  (hm:lastMarks [op,op'] [b,c]=false:=by with_unfolding_all rfl):PT X (.Compare a [op,op'] [b,c] pos) (zQn (zI7 r r' ta tb tc)):=by
 intro pins s B H Q I h;refine isTrue_chain (thn (ha pins s B H _ I h) λv s1 ⟨x,H1,I1,r1,q1⟩=>test_link (thn (hb pins s1 B H1 _ I1 q1) λu s2 ⟨y,H2,I2,r2,q2⟩ =>
  thn (ho pins s2 B H2 x y v u _ I2 r1 r2 q2) λd s3 ⟨z,H3,I3,r3,k,e,q3⟩=>?_)) hm
 subst e;cases r3;refine wpAny_truthy_bool ?_;cases k with
 | false =>
  obtain⟨k',e',q'⟩:=q3;cases e';exact ite_ff ⟨H3,I3,q'⟩
 | true =>
  refine ite_tt (test_last (thn (hc pins s3 B H3 _ I3 q3) λw' s4 ⟨z',H4,I4,r4,q4⟩=>thn (ho' pins s4 B H4 y z' u w' _ I4 r2 r4 q4) λd' s5 zz27=>?_));obtain⟨z2,H5,I5,r5,k2,e2,q5⟩:=zz27;subst e2;cases r5;exact wpAny_truthy_bool ⟨H5,I5,q5⟩
theorem zHl:(sizeLine:Nat) < 2^63:=by decide
theorem zII (r:Vals [x] us):∃ u,us=[u]/\RelV x u:=by
 cases r with
 | cons r1 r2=>cases r2;exact⟨_,rfl,r1⟩
theorem zOU (r:Vals [x,y] us):∃ u w',us=[u,w']/\RelV x u/\RelV y w':=by
 cases r with
 | cons r1 r2 =>
  cases r2 with
  | cons r3 r4=>cases r4;exact⟨_,_,rfl,r1,r3⟩
theorem zNM:zEJ X (.builtin "abs") (λxs H Q=>∃ i,xs=[.int i]/\Q (.int (if i < 0 then -i else i)) H):=by
 intro pins s B H xs us Q I r h;obtain⟨i,rfl,q⟩:=h;obtain⟨u,rfl,t,rfl⟩:=zII r;exact call_abs_int λu tk=>⟨.int _,H,I.tok _,⟨_,rfl⟩,q⟩
theorem zLS (hc:X.calm=true):zEJ X (.builtin "max") (λxs H Q=>∃ i j,xs=[.int i,.int j]/\Q (.int (if j>i then j else i)) H):=by
 intro pins s B H xs us Q I r h;obtain⟨i,j,rfl,q⟩:=h;obtain⟨u,w',rfl,⟨t,rfl⟩,⟨t',rfl⟩⟩:=zOU r;refine max_two_ints (I.ok.hd hc) λh' tk k=>⟨_,H,I.kept k,?_,q⟩
 by_cases hj:j>i
 .rw [if_pos hj,if_pos hj];exact⟨_,rfl⟩
 .rw [if_neg hj,if_neg hj];exact⟨_,rfl⟩
end
structure ObjM (h:Heap)(x dx C:Addr)(mA:Str->Option Value):Prop where
 obj:h.get? x=some (W.instObj C dx)
 ns:h.Ns1 dx mA
 ne:dx≠x
theorem zKD {h:Heap}(n:h.Ns1 dx mA):∃ od,h.get? dx=some od/\∀ name,W.lookIn name od=some (mA name):=by
 obtain⟨o,es,ep,ho,hd,hk,_,hm⟩:=n;refine⟨o,ho,λname=>?_⟩;have e:=hm name;unfold nsFind findBy at e;unfold W.lookIn;rw[hd];dsimp only;split
 .grind
 .rename_i q;have a:es.toList.any (·.refKey)=false:=by
   rw[List.any_eq_false];intro y hy;obtain⟨z,t,hkey⟩:=hk y (Array.mem_toList_iff.mp hy);simp[DictEntry.refKey,hkey]
  grind
theorem ObjM.look (I:ObjM h x dx C mA):∃ od,W.InstAt h x (W.instObj C dx) C (some od)/\∀ name,W.lookIn name od=some (mA name) :=
 let ⟨od,ho,hl⟩:=zKD I.ns
 ⟨od,⟨I.obj,rfl,rfl,ho⟩,hl⟩
section
variable {prog:Program}{w:World}{A:Around}{E:Value->Shared->Prop}{s:Shared}{K:W.Frag}{x dx C f:Addr}{mA:Str->Option Value}{name:Str}{v:Value}
theorem zPo (X:K.In s.heap)(I:ObjM s.heap x dx C mA)(hg:W.plainGet K C name=true)(hh:W.hasDictIn K C=true)
  (ha:W.findIn K (.ref C) name=some none) (hv:mA name=some v) (hv':W.handedIn v=true) (h:Q v { s with toks:=s.toks+1 }) :
  wpAny (model prog w) A (getAttr (.ref x) name expr) Q E s:=by
 obtain⟨od,J,hl⟩:=I.look;exact W.get_value X J (W.plainGet_of hg).1 (W.findObj_own hh ha rfl (by simp_all)) hv' h
theorem zMj (X:K.In s.heap)(I:ObjM s.heap x dx C mA)(hg:W.plainGet K C name=true)
  (hf:W.findIn K (.ref C) name=some (some (.ref f))) (ht:W.isFn K (.ref f)=true) (hv:mA name=none) (h:Q (.ref f,[.ref x]) s) :
  wpAny (model prog w) A (getMethod (.ref x) name pl) Q E s:=by
 obtain⟨od,J,hl⟩:=I.look;exact W.method_fn X J (W.plainGet_of hg).1 (W.plainGet_of hg).2 hf (beq_iff_eq.mp ht) (by show (W.lookIn name od).map (·.isSome)=some false;rw[hl,hv];rfl) h
theorem zOa (X:K.In s.heap)(I:ObjM s.heap x dx C mA)
  (hs:W.findIn K (.ref C) "__setattr__"=some (some (.builtin "object.__setattr__"))) (hp:W.plainOver K C=true) (ht:W.takerIn K C name=some none) (hh:W.hasDictIn K C=true)
  (hw:PySem.Within mA ns) (hsz:ns.length<=sizeLine)
  (h:∀ h',ObjM h' x dx C (λy=>if y=name then some v else mA y)->Heap.SameBut dx s.heap h'->Q () { s with heap:=h',toks:=s.toks+2 }) :
  wpAny (model prog w) A (setAttr (.ref x) name v) Q E s:=by
 obtain⟨od,J,hl⟩:=I.look;refine W.set_plain X J hs (W.osa_open (s:={ s with toks:=s.toks+1 }) (r:=none) X J hp ht λb=>?_);obtain⟨cd,hc,hd'⟩:=W.any_some hh;refine qX (xy (qX (qX (wpAny_loadPart I.obj (qX (W.Looks.here (s:={ s with toks:=s.toks+1 }) (W.looks_clsIn X hc) ?_))))));rw[hd'];refine xy (a:=some dx) (qX (xy (qX ?_)));refine wpAny_nsSet1 (s:={ s with toks:=s.toks+1 }) I.ns λh' hn2 hs2=>?_
 obtain⟨oD,esD,epD,hoD,hdD,hcD⟩:=hn2.count (PySem.Within.cons name v hw);refine qX (wpAny_lookBehind hoD (by rw[hdD];exact pastItsLine_dict (le_trans hcD (by rw[xJ];omega))) ?_);exact xy (h _ ⟨(hs2.2 _ (Ne.symm I.ne)).trans I.obj,hn2,I.ne⟩ hs2)
theorem zMI (X:K.In s.heap)(hm:W.makesIn K C=true)
  (hi:W.findIn K (.ref C) "__init__"=some (some (.ref f))) (hf:W.typeIn K (.ref f)=some (.type "function"))
  (h:codeAny (model prog w) (A.under (.builtin "type.__call__" ⟨.ref C::vs,kw⟩)) (.call (.ref f) ⟨.ref (s.heap.objs.size+1)::vs,kw⟩) (W.InitBack (s.heap.objs.size+1) R)
   { s with heap:=(s.heap.push W.emptyDict).push (W.instObj C s.heap.objs.size) }) :
  codeAny (model prog w) A (.call (.ref C) ⟨vs,kw⟩) R s:=W.make_core (W.makes_of X hm) (W.looks_findIn X hi) (λself=>W.bind_fn X self hf) (.inl rfl) h
end
noncomputable def putF (f:Str)(v:V):List (Str×V)->List (Str×V)
 | []=>[(f,v)]
 | (g,x)::r=>if g=f then (g,v)::r else (g,x)::putF f v r
theorem zBx (f g:Str)(v:V):∀ fs:List (Str×V),(putF f v fs).lookup g=if g=f then some v else fs.lookup g
 | []=>by
  show List.lookup g [(f,v)]=_;by_cases h:g=f
  .have hb:(g==f)=true:=beq_iff_eq.mpr h;simp only[List.lookup,hb,if_pos h]
  .have hb:(g==f)=false:=beq_eq_false_iff_ne.mpr h;simp only[List.lookup,hb,if_neg h]
 | (k,x)::r=>by
  have ih:=zBx f g v r;rw[show putF f v ((k,x)::r)=(if k=f then (k,v)::r else (k,x)::putF f v r) from rfl];by_cases hk:k=f
  .rw [if_pos hk];by_cases h:g=k
   .have hb:(g==k)=true:=beq_iff_eq.mpr h;simp only[List.lookup,hb,if_pos (h.trans hk)]
   .have hb:(g==k)=false:=beq_eq_false_iff_ne.mpr h;simp only[List.lookup,hb,if_neg (λe:g=f=>h (e.trans hk.symm))]
  .rw [if_neg hk];by_cases h:g=k
   .have hb:(g==k)=true:=beq_iff_eq.mpr h;simp only[List.lookup,hb,if_neg (λe:g=f=>hk (h.symm.trans e))]
   .have hb:(g==k)=false:=beq_eq_false_iff_ne.mpr h;simp only[List.lookup,hb];exact ih
theorem zDy (f:Str)(v:V):∀ fs:List (Str×V),f∈(putF f v fs).map (·.1)/\∀ g,g∈fs.map (·.1)->g∈(putF f v fs).map (·.1)
 | []=>⟨by simp[putF],λg h=>by simp at h⟩
 | (k,x)::r=>by
  obtain⟨i1,i2⟩:=zDy f v r;rw[show putF f v ((k,x)::r)=(if k=f then (k,v)::r else (k,x)::putF f v r) from rfl];by_cases hk:k=f
  .rw [if_pos hk];subst hk;exact⟨by simp,λg h=>by simpa using h⟩
  .rw [if_neg hk];refine⟨?_,λg h=>?_⟩
   .rw [map_cons];exact qJ _ i1
   .rw [map_cons] at h ⊢;rcases mem_cons.mp h with e | e
    .exact mem_cons.mpr (.inl e)
    .exact qJ _ (i2 g e)
theorem zDw (f:Str)(v:V):∀ fs:List (Str×V),(putF f v fs).length<=fs.length+1
 | []=>by simp[putF]
 | (k,x)::r=>by
  have ih:=zDw f v r;rw[show putF f v ((k,x)::r)=(if k=f then (k,v)::r else (k,x)::putF f v r) from rfl];by_cases hk:k=f
  .rw [if_pos hk,xJ,xJ];omega
  .rw [if_neg hk,xJ,xJ];omega
theorem RelO.some_of (r:RelO (some v) o):∃ u,o=some u/\RelV v u:=by
 cases o with
 | none=>exact r.elim
 | some u=>exact⟨u,rfl,r⟩
theorem RelO.none_of (r:RelO none o):o=none:=by
 cases o with
 | none=>rfl
 | some u=>exact r.elim
theorem zKM (r:RelV v u):W.handedIn u=true:=by
 cases v with
 | non=>cases r;rfl
 | bl b=>cases r;rfl
 | int i=>obtain⟨t,e⟩:=r;cases e;rfl
 | str x=>obtain⟨t,e⟩:=r;cases e;rfl
 | byt b=>obtain⟨t,e⟩:=r;cases e;rfl
 | flt b=>obtain⟨t,e⟩:=r;cases e;rfl
 | ref a=>cases r;rfl
 | ty n=>cases r;rfl
section
variable {P:Program}{w:World}{H H':Hp}{h h':Heap}{a C dx:Addr}{fs fs':List (Str×V)}
theorem zG0 (hok:HOk P w H h)(e:H a=some (.ins C dx fs)):∃ mA,ObjM h a dx C mA/\(∀ f,RelO (fs.lookup f) (mA f))/\PySem.Within mA (fs.map (·.1))/\fs.length<=1000/\H dx=some (.own a):=by
 obtain⟨d,z,ne,ob,mA,n,r,q⟩:=hok a _ e;exact⟨mA,⟨ob,n,ne⟩,r,q,z,d⟩
end
structure Cls (K:W.Frag)(C:Addr):Prop where
 pg:W.plainGet K C Str.empty=true
 hd:W.hasDictIn K C=true
 po:W.plainOver K C=true
 sa:W.findIn K (.ref C) "__setattr__"=some (some (.builtin "object.__setattr__"))
theorem Cls.get {K:W.Frag}(c:Cls K C)(f:Str):W.plainGet K C f=true:=c.pg
def zBE (K:W.Frag)(C:Addr)(f:Str):Prop:=W.findIn K (.ref C) f=some none
theorem zBE.taker {K:W.Frag}(n:zBE K C f):W.takerIn K C f=some none:=by
 unfold W.takerIn;rw[show W.findIn K _ f=some none from n]
 rfl
structure Meth (K:W.Frag)(C:Addr)(m:Str)(f:Addr):Prop where
 at_:W.findIn K (.ref C) m=some (some (.ref f))
 fn:W.isFn K (.ref f)=true
 kp:W.keepIn K (.ref f)=true
section
variable {X:Cx}{pins:List (Addr×Obj)}{B:St}{H:Hp}{s:Shared}{a C dx:Addr}{fs:List (Str×V)}{f:Str}{v:V}{A:Around}{E:Value->Shared->Prop}
theorem zIh (I:Inv X pins B H s)(e:H a=some (.ins C dx fs))(c:Cls X.K C)(n:zBE X.K C f)(l:fs.lookup f=some v)
  (h:∀ u s',Inv X pins B H s'->RelV v u->Q u s'):wpAny (model X.prog X.w) A (getAttr (.ref a) f b) Q E s:=by
 obtain⟨mA,O,r,_,_,_⟩:=zG0 I.hok e;obtain⟨u,hu,ru⟩:=RelO.some_of (by rw[<- l];exact r f);exact zPo I.kIn O (c.get f) c.hd n hu (zKM ru) (h u _ (I.tok _) ru)
theorem zEk (I:Inv X pins B H s)(e:H a=some (.ins C dx fs))(c:Cls X.K C)(k:Meth X.K C m g)(l:fs.lookup m=none)
  (h:Q (.ref g,[.ref a]) s):wpAny (model X.prog X.w) A (getMethod (.ref a) m pl) Q E s:=by
 obtain⟨mA,O,r,_,_,_⟩:=zG0 I.hok e;exact zMj I.kIn O (c.get m) k.at_ k.fn (RelO.none_of (by rw[<- l];exact r m)) h
theorem zIN (I:Inv X pins B H s)(e:H a=some (.ins C dx fs))(c:Cls X.K C)(n:zBE X.K C f)(hl:fs.length < 1000)(ry:RelV y u)
  (h:∀ s',Inv X pins B (upd H a (.ins C dx (putF f y fs))) s'->Q () s'):wpAny (model X.prog X.w) A (setAttr (.ref a) f u) Q E s:=by
 obtain⟨mA,O,r,wi,_,ho⟩:=zG0 I.hok e;refine zOa I.kIn O c.sa c.po n.taker c.hd wi (by rw[qy,sizeLine_eq];omega) λh' O' sb=>h _ ?_
 refine I.write (x:=a) (e:=dx) (by rw[e];exact True.intro) (.inr ho) (λb q hb z=>(sb.2 b hb).trans z) (let ⟨o,_,_,e',_⟩:=O'.ns;⟨o,e'⟩) ?_;refine⟨by rw[zAN O.ne];exact ho,?_,O.ne,O'.obj,_,O'.ns,λg=>?_,λg hg=>?_⟩
 .have:=zDw f y fs;omega
 .show RelO ((putF f y fs).lookup g) (if g=f then some u else mA g);rw[zBx];by_cases q:g=f
  .rw [if_pos q,if_pos q];exact ry
  .rw [if_neg q,if_neg q];exact r g
 .by_cases q:g=f
  .rw [q];exact(zDy f y fs).1
  .refine (zDy f y fs).2 g (wi g λz=>hg ?_);grind
theorem Inv.made (I:Inv X pins B H s):Inv X pins B (upd (upd H s.heap.objs.size (.own (s.heap.objs.size+1))) (s.heap.objs.size+1) (.ins C s.heap.objs.size []))
  { s with heap:=(s.heap.push W.emptyDict).push (W.instObj C s.heap.objs.size) }:=by
 have e1:(s.heap.push W.emptyDict).get? s.heap.objs.size=some W.emptyDict:=get?_push_size s.heap rfl;have e2:((s.heap.push W.emptyDict).push (W.instObj C s.heap.objs.size)).get? (s.heap.objs.size+1)=some (W.instObj C s.heap.objs.size):=by
  have:=get?_push_size (s.heap.push W.emptyDict) (o:=W.instObj C s.heap.objs.size) rfl
  simp_all
 refine(I.laid (o:=.own _) (t':=s.toks) (λb u q=>get?_push_of_some _ q) (le_refl _) ⟨_,e1⟩).laid (λb u q=>get?_push_of_some _ q) (Nat.le_of_eq (Heap.size_push _ _)) ?_;have ne:s.heap.objs.size≠s.heap.objs.size+1:=ne_of_lt (Nat.lt_succ_self _);refine⟨by rw[zAN ne,zAP],zero_le _,ne,e2,λ_=>none,(Heap.Ns1.of_empty (⟨W.emptyDict,#[],_,e1,rfl,λe he=>absurd he (by simp),λ_=>rfl⟩)).at λo q=>get?_push_of_some _ q,λ_=>True.intro,λy hy=>absurd rfl hy⟩
theorem zQY (hb:attributeBase e f env (eval e env)=eval e env)
  (h:wpAny (model prog w) A (eval e env) (λo O3=>wpAny (model prog w) A (getAttr o f true) Q E O3) E s):wpAny (model prog w) A (eval (.Attribute e f pos) env) Q E s :=
 Attribute_any_ h (by rw[arm_eval_Attribute,hb])
end
def tFld (K:W.Frag)(ta:TE)(f:Str):TE:=λB H Q=>ta B H λx H1=>∃ a C dx fs v,x=.ref a/\H1 a=some (.ins C dx fs)/\Cls K C/\zBE K C f/\fs.lookup f=some v/\Q v H1
def sFld (K:W.Frag)(ta tv:TE)(f:Str):TS:=λD B H=>tv B H λy H1=>ta B H1 λx H2=>∃ a C dx fs,x=.ref a/\H2 a=some (.ins C dx fs)/\Cls K C/\zBE K C f/\fs.length < 1000 /\
 D.nx B (upd H2 a (.ins C dx (putF f y fs)))
section
variable {X:Cx}{o e value:Expr}{f:Str}{pos pos' tpos:Pos}{ta tv:TE}
theorem zNr (he:PE X e ta)(hb:attributeBase e f X.env (eval e X.env)=eval e X.env):PE X (.Attribute e f pos) (tFld X.K ta f):=by
 intro pins s B H Q I h;refine zQY hb (thn (he pins s B H _ I h) λu s1 zz28=>?_);obtain⟨x,H1,I1,rx,a,C,dx,fs,v,ex,ea,c,n,l,q⟩:=zz28;subst ex;obtain rfl:=rx;exact zIh I1 ea c n l λu' s2 I2 ru=>⟨v,H1,I2,ru,q⟩
theorem zQ8 (ha:PE X o ta)(hv:PE X value tv)(hs:swapsWith value (some (.Attribute o f pos')) pos.line X.env=pure false):PS X (.Assign [.Attribute o f pos'] value pos) (sFld X.K ta tv f):=by
 intro pins s B H D I h;refine plainObj_wpAny_Assign_Attribute (thn (hv pins s B H _ I h) λu s1 ⟨y,H1,I1,ry,q⟩=>thn (ha pins s1 B H1 _ I1 q) λov s2 zz29=>?_) hs;obtain⟨x,H2,I2,rx,a,C,dx,fs,ex,ea,c,n,l,q2⟩:=zz29;subst ex;obtain rfl:=rx;exact zIN I2 ea c n l ry λs3 I3=>⟨B,_,I3,q2⟩
end
section
variable {X:Cx}{pins:List (Addr×Obj)}{B:St}{H:Hp}{s:Shared}{A:Around}{E:Value->Shared->Prop}{Q:Value->Shared->Prop}{c:Value}{b:Bool}
inductive TyOf (K:W.Frag) (H:Hp):V->Value->Prop where
 | non:TyOf K H .non (.type "NoneType")
 | bl (x:Bool):TyOf K H (.bl x) (.type "bool")
 | int (i:Int):TyOf K H (.int i) (.type "int")
 | str (x:Str):TyOf K H (.str x) (.type "str")
 | flt (x:UInt64):TyOf K H (.flt x) (.type "float")
 | lst {a:Addr} {xs:List V} (e:H a=some (.lst xs)):TyOf K H (.ref a) (.type "list")
 | frz {a:Addr} {o:Obj} {xs:List V} (e:H a=some (.frz o (.lst xs))):TyOf K H (.ref a) (.type "list")
 | tup {a:Addr} {xs:List V} (e:H a=some (.tup xs)):TyOf K H (.ref a) (.type "tuple")
 | dK {a:Addr} {kvs:List (Key×V)} (e:H a=some (.dK kvs)):TyOf K H (.ref a) (.type "dict")
 | dT {a:Addr} {kvs:List (List Key×V)} (e:H a=some (.dT kvs)):TyOf K H (.ref a) (.type "dict")
 | ins {a C dx:Addr} {fs:List (Str×V)} (e:H a=some (.ins C dx fs)) (cl:Cls K C) (ha:W.findIn K (.ref C) "__class__"=some (some (.builtin "object.__class__")))
   (hn:W.specialIn K (.builtin "object.__class__") "__get__"=some (some (.builtin "getset_descriptor.__get__"))) (htk:W.takesIn K (.builtin "object.__class__")=some true)
   (hm:W.mroIn K C (.type "object")=some true):TyOf K H (.ref a) (.ref C)
end
structure Room (k:Nat)(A:Around):Prop where
 hd:A.handled=none
 dp:A.depth+3*k+105 < recursionLimit
 un:A.units+16*k+200 < cLine
theorem Room.mono (r:Room k A)(h:j<=k):Room j A:=⟨r.hd,by have:=r.dp;omega,by have:=r.un;omega⟩
theorem Room.deeper (r:Room (k+1) A)(env:Env):Room k (A.deeper env) :=
 ⟨r.hd,by have:=r.dp;show A.depth+1+3*k+105 < _;omega,by have:=r.un;show A.units+3+16*k+200 < _;omega⟩
theorem zIZ {A:Around}:(A.under (.builtin "type.__call__" ⟨.ref C::us,kw⟩)).depth=A.depth+1:=rfl
theorem zIY {A:Around}:(A.under (.builtin "type.__call__" ⟨.ref C::us,kw⟩)).units=A.units+1:=rfl
theorem Room.make (r:Room (k+1) A)(C:Addr)(us:List Value)(kw:List (Str×Value)):Room k (A.under (.builtin "type.__call__" ⟨.ref C::us,kw⟩)) :=
 ⟨r.hd,by have:=r.dp;rw[zIZ];omega,by have:=r.un;rw[zIY];omega⟩
theorem Room.depth (r:Room k A):A.depth < recursionLimit:=by have:=r.dp;omega
theorem Room.units (r:Room k A):A.units+64 < cLine:=by have:=r.un;omega
def tNil:TA:=λ_ H Q=>Q [] H
def zQq (ta:TE)(tr:TA):TA:=λB H Q=>ta B H λx H1=>tr B H1 λxs H2=>Q (x::xs) H2
section
variable {X:Cx}{e:Expr}{es:List Expr}{te:TE}{t:TA}{pos:Pos}
theorem zA1:PA X [] tNil:=λ_ _ _ _ H Q I h=>Calls.spliced_nil ⟨[],H,I,.nil,h⟩
theorem zAU (ha:PE X e te)(hr:PA X es t)(hs:starEach (e::es) X.env=(false,eval e X.env)::starEach es X.env:=by rfl):PA X (e::es) (zQq te t):=by
 intro pos pins s B H Q I h;rw[hs];show wpAny _ _ (spliced ((false,eval e X.env)::backTo pos (starEach es X.env))) _ _ s;refine Calls.spliced_cons (thn (ha pins s B H _ I h) λu s1 zz30=>?_);obtain⟨x,H1,I1,r1,q1⟩:=zz30;exact thn (hr pos pins s1 B H1 _ I1 q1) λus s2 zy129=>by obtain⟨xs,H2,I2,r2,q2⟩:=zy129;exact⟨x::xs,H2,I2,.cons r1 r2,q2⟩
def tTup (t:TA):TE:=λB H Q=>t B H λxs H1=>xs.length<=sizeLine/\∀ p,H1 p=none->Q (.ref p) (upd H1 p (.tup xs))
def tLst (t:TA):TE:=λB H Q=>t B H λxs H1=>xs.length<=sizeLine/\∀ p,H1 p=none->Q (.ref p) (upd H1 p (.lst xs))
theorem zNp {x1}(h:PA X es t):PE X (.Tuple es x1 pos) (tTup t):=by
 intro pins s B H Q I hq;refine wpAny_Tuple_spliced (thn (h pos pins s B H _ I hq) λus s1 ⟨xs,H1,I1,r,z,q⟩=>⟨by rw[<- r.length];exact z,?_⟩);refine⟨.ref s1.heap.objs.size,upd H1 s1.heap.objs.size _,I1.laid (λb u e=>get?_push_of_some _ e) (le_refl _) ?_,rfl,q _ (I1.hok.fresh (le_refl _))⟩;exact⟨z,us,r,⟨_,get?_push_size _ rfl,rfl,_,rfl⟩⟩
theorem zNq (h:PA X es t):PE X (.List es pos) (tLst t):=by
 intro pins s B H Q I hq;refine wpAny_List_spliced (thn (h pos pins s B H _ I hq) λus s1 ⟨xs,H1,I1,r,z,q⟩=>⟨by rw[<- r.length];exact z,?_⟩);refine⟨.ref s1.heap.objs.size,upd H1 s1.heap.objs.size _,I1.laid (λb u e=>get?_push_of_some _ e) (le_refl _) ?_,rfl,q _ (I1.hok.fresh (le_refl _))⟩;exact⟨z,us,0,r,get?_push_size _ rfl⟩
end
abbrev Sp:=List V->Hp->VK->XK->Prop
abbrev CXT:=List Env->Hp->Shared->XK->Value->Shared->Prop
structure Env0 (P:Program)(w:World)(K:W.Frag)(mg:Str->Option Value)(base:Heap)(A:Around)(outer:List Env)(s:Shared)(H:Hp):Prop where
 frames:A.frames=some outer
 mod:Mod K mg base
 bs:∀ b o,base.get? b=some o->s.heap.get? b=some o/\H b=none
 bsz:base.objs.size<=s.heap.objs.size
 funs:s.heap.FunFrames base outer
 frf:∀ b∈frs outer,H b=none
 hok:HOk P w H s.heap
 bare:AllBare s.gens
 tree:(model P w).prog.given.tree=none
 tabs:zIE K H
def CE (outer:List Env)(P:Program)(w:World)(H:Hp)(s:Shared)(Q:VK)(u:Value)(s':Shared):Prop :=
 ∃ v H',s'.os=s.os/\AllBare s'.gens/\Un (frs outer) [] H H' s.heap s'.heap/\HOk P w H' s'.heap/\RelV v u/\Q v H'
def CR (CX:CXT)(outer:List Env)(P:Program)(w:World)(H:Hp)(s:Shared)(Q:VK)(E:XK)(r:Result)(s':Shared):Prop :=
 match r with
 | .ok (.ret u)=>CE outer P w H s Q u s'
 | .ok _=>False
 | .error e=>CX outer H s E e s'
structure FnOk (P:Program)(w:World)(K:W.Frag)(mg:Str->Option Value)(base:Heap)(CX:CXT)(k:Nat)(f:Addr)(fd:FuncData)(ps:List Str)(sp:Sp):Prop where
 len:∀ vs H Q E,sp vs H Q E->vs.length=ps.length
 run:∀ (A:Around) (outer:List Env) (s:Shared) (H:Hp) (args:Args) (us:List Value) (vs:List V) (Q:VK) (E:XK),Room k A->Env0 P w K mg base A outer s H->BindsTo s fd args (ps.zip us)->Vals vs us->sp vs H Q E ->
  codeAny (model P w) A (.call (.ref f) args) (CR CX outer P w H s Q E) s
theorem FnOk.mono {K:W.Frag}(F:FnOk P w K mg base CX j f fd ps sp)(h:j<=k) :
  FnOk P w K mg base CX k f fd ps sp:=⟨F.len,λA outer s H args us vs Q E hr=>F.run A outer s H args us vs Q E (hr.mono h)⟩
theorem FnOk.imp {K:W.Frag}(F:FnOk P w K mg base CX k f fd ps sp)
  (h:∀ vs H Q E,sp' vs H Q E->sp vs H Q E):FnOk P w K mg base CX k f fd ps sp' :=
 ⟨λvs H Q E q=>F.len vs H Q E (h _ _ _ _ q),λA outer s H args us vs Q E hr he hb hv hs=>F.run A outer s H args us vs Q E hr he hb hv (h _ _ _ _ hs)⟩
theorem Env0.make {K:W.Frag}(e:Env0 P w K mg base A outer s H)(C:Addr)(us:List Value)(kw:List (Str×Value)) :
  Env0 P w K mg base (A.under (.builtin "type.__call__" ⟨.ref C::us,kw⟩)) outer s H:=⟨by first | exact e.frames | simpa using e.frames,e.mod,e.bs,e.bsz,e.funs,e.frf,e.hok,e.bare,e.tree,e.tabs⟩
section
variable {X:Cx}{pins:List (Addr×Obj)}{B:St}{H:Hp}{s s':Shared}
theorem Inv.env0 (I:Inv X pins B H s):Env0 X.prog X.w X.K X.mg X.base X.A X.stack s H :=
 ⟨I.ok.frames,I.ok.mod,I.bs,le_trans I.ok.bsz I.sz,I.stack,I.stkFree,I.hok,I.bare,I.ok.pyl.2.1,I.tabs⟩
theorem Inv.after (I:Inv X pins B H s)(h:CE X.stack X.prog X.w H s Q u s'):EP X pins B Q u s':=by
 obtain⟨v,H',os,bare,un,hok,r,q⟩:=h;obtain⟨hh,g,d,t,os'⟩:=s'
 simp_all
 exact⟨v,H',I.call un hok bare λb z=>absurd z (by simp),r,q⟩
end
def zLw (sp:Sp)(dvs:List V)(E:XK)(t:TA):TE:=λB H Q=>t B H λvs H1=>sp (vs++dvs) H1 Q E
def zQp (C:Addr)(m:Str)(sp:Sp)(dvs:List V)(E:XK)(ta:TE)(t:TA):TE:=λB H Q=>ta B H λx H1=>∃ a dx fs,x=.ref a/\H1 a=some (.ins C dx fs)/\fs.lookup m=none /\
 t B H1 λvs H2=>sp (x::(vs++dvs)) H2 Q E
def zBA (K:W.Frag)(fd:FuncData)(ps:List Str)(ds:List Value):Prop :=
 ∀ (s:Shared) (us:List Value),K.In s.heap->(us++ds).length=ps.length->BindsTo s fd ⟨us,[]⟩ (ps.zip (us++ds))
theorem zBA.all {K:W.Frag}(h:∀ us:List Value,us.length=ps.length->bindArgs fd ⟨us,[]⟩=pure (ps.zip us)):zBA K fd ps []:=λs us _ hl=>by
 simp_all
 exact .of_eq (h us hl)
def zE0 (CX:CXT)(X:Cx)(E:XK):Prop:=∀ (pins:List (Addr×Obj)) (B:St) (H:Hp) (s:Shared) (e:Value) (s':Shared),Inv X pins B H s->CX X.stack H s E e s'->X.xe e s'
section
variable {X:Cx}{CX:CXT}{k:Nat}{f C:Addr}{fd:FuncData}{ps:List Str}{sp:Sp}{dvs:List V}{ds:List Value}{E:XK}{x m:Str}{p pos apos:Pos}{e o:Expr}{es:List Expr}{ta:TE}{t:TA}
theorem zES {pins:List (Addr×Obj)}{B:St}{H:Hp}{s:Shared}{Q:VK}{us:List Value}{vs:List V}(F:FnOk X.prog X.w X.K X.mg X.base CX k f fd ps sp)(hr:Room k X.A)(hb:zBA X.K fd ps ds)(hd:Vals dvs ds)(hx:zE0 CX X E)
  (I:Inv X pins B H s) (r:Vals vs us) (h:sp (vs++dvs) H Q E):wpAny (model X.prog X.w) X.A (call (.ref f) us) (EP X pins B Q) X.xe s:=by
 have r2:=r.append hd;refine wpAny_call (codeAny_mono (F.run X.A X.stack s H _ _ _ Q E hr I.env0 (hb s us I.kIn (by rw[<- r2.length];exact F.len _ _ _ _ h)) r2 h) λr s' hq=>?_);cases r with
 | error e=>exact hx pins B H s e s' I hq
 | ok fl =>
  cases fl with
  | ret u=>exact I.after hq
  | next=>exact False.elim hq
  | brk=>exact False.elim hq
  | cont=>exact False.elim hq
theorem zJb (F:FnOk X.prog X.w X.K X.mg X.base CX k f fd ps sp)(hr:Room k X.A)(hg:Gl X x)(hm:X.mg x=some (.ref f))(hk:W.keepIn X.K (.ref f)=true)(hb:zBA X.K fd ps ds)(hd:Vals dvs ds)(hx:zE0 CX X E)
  (ha:PA X (e::es) t) (hdb:(x==("__debug__":Str))=false:=by decide) (he:starEach (e::es) X.env=(false,eval e X.env)::starEach es X.env:=by rfl) (hpl:(backTo pos (starEach es X.env)).any (·.1)=false:=by rfl) :
  PE X (.Call (.Name x p) (e::es) [] pos) (zLw sp dvs E t):=by
 intro pins s B H Q I h;refine wpAny_Call_Name_kw (zDx I hg hm ?_ hdb);refine W.callWith_K I.ok.mod.kin hk (thn (ha pos pins s B H _ I h) λus s1 ⟨vs,H1,I1,r,q⟩=>⟨I1.kIn,?_⟩) he hpl;exact zES F hr hb hd hx I1 r q
theorem zMB (F:FnOk X.prog X.w X.K X.mg X.base CX k f fd ps sp)(hr:Room k X.A)(hg:Gl X x)(hm:X.mg x=some (.ref f))(hk:W.keepIn X.K (.ref f)=true)(hb:zBA X.K fd ps ds)(hd:Vals dvs ds)(hx:zE0 CX X E)
  (hdb:(x==("__debug__":Str))=false:=by decide):PE X (.Call (.Name x p) [] [] pos) (zLw sp dvs E tNil):=by
 intro pins s B H Q I h;refine wpAny_Call_Name_kw (zDx I hg hm ?_ hdb);exact W.callWith_K0 I.kIn hk (zES F hr hb hd hx I .nil h)
theorem zOm {pl:Sem Bool}(he:PE X o ta)(c:Cls X.K C)(hm:Meth X.K C m f)(F:FnOk X.prog X.w X.K X.mg X.base CX k f fd ps sp)(hr:Room k X.A)(hb:zBA X.K fd ps ds)(hd:Vals dvs ds)(hx:zE0 CX X E)(ha:PA X (e::es) t)
  (hst:starEach (e::es) X.env=(false,eval e X.env)::starEach es X.env:=by rfl) (hpl:(backTo pos (starEach es X.env)).any (·.1)=false:=by rfl)
  (ht:eval (.Call (.Attribute o m apos) (e::es) [] pos) X.env=(do
   let ov<-eval o X.env
   standAt apos.atName
   let (f,first)<-holding [ov] (getMethod ov m pl)
   callWith pos f first (backTo pos (starEach (e::es) X.env)) (backToKw pos (keywordEach [] X.env))):=by rfl) :
  PE X (.Call (.Attribute o m apos) (e::es) [] pos) (zQp C m sp dvs E ta t):=by
 intro pins s B H Q I h;refine W.methodCall_KW (pl:=pl) (thn (he pins s B H _ I h) λu s1 zz31=>?_) ht;obtain⟨x,H1,I1,rx,a,dx,fs,ex,ea,l,q⟩:=zz31;subst ex;obtain rfl:u=Value.ref a:=rx;refine zEk I1 ea c hm l ?_;refine W.callWith_K (first:=[.ref a]) (h₀:=X.base) I.ok.mod.kin hm.kp (thn (ha pos pins s1 B H1 _ I1 q) λus s2 ⟨vs,H2,I2,r,q2⟩=>⟨I2.kIn,?_⟩) hst hpl;exact zES (us:=.ref a::us) (vs:=.ref a::vs) F hr hb hd hx I2 (.cons rfl r) q2
theorem zL8 {pl:Sem Bool}(he:PE X o ta)(c:Cls X.K C)(hm:Meth X.K C m f)(F:FnOk X.prog X.w X.K X.mg X.base CX k f fd ps sp)(hr:Room k X.A)(hb:zBA X.K fd ps ds)(hd:Vals dvs ds)(hx:zE0 CX X E)
  (ht:eval (.Call (.Attribute o m apos) [] [] pos) X.env=(do
   let ov<-eval o X.env
   standAt apos.atName
   let (f,first)<-holding [ov] (getMethod ov m pl)
   callWith pos f first (backTo pos (starEach [] X.env)) (backToKw pos (keywordEach [] X.env))):=by rfl) :
  PE X (.Call (.Attribute o m apos) [] [] pos) (zQp C m sp dvs E ta tNil):=by
 intro pins s B H Q I h;refine W.methodCall_KW (pl:=pl) (thn (he pins s B H _ I h) λu s1 zz32=>?_) ht;obtain⟨x,H1,I1,rx,a,dx,fs,ex,ea,l,q⟩:=zz32;subst ex;obtain rfl:u=Value.ref a:=rx;refine zEk I1 ea c hm l ?_;exact W.callWith_K0 (first:=[.ref a]) I1.kIn hm.kp (zES (us:=[.ref a]) (vs:=[.ref a]) F hr hb hd hx I1 (.cons rfl .nil) q)
structure Mk (K:W.Frag)(C f:Addr):Prop where
 makes:W.makesIn K C=true
 init:W.findIn K (.ref C) "__init__"=some (some (.ref f))
 fn:W.isFn K (.ref f)=true
 kp:W.keepIn K (.ref C)=true
end
structure zAX (N P:List Str)(sc:Scope):Prop where
 kind:sc.kind=.function
 co:sc.isCoroutine=false
 gen:sc.isGenerator=false
 nd:N.Nodup
 pre:N.take P.length=P
 par:∀ x∈P,sc.names.lookup x=some .local\/sc.names.lookup x=some .cell
 nofree:∀ y∈sc.names,y.2≠.free
theorem zGS {kindOf:Str->Option NameKind}:∀ {binds:List (Str×Value)} {m:Str->Option Value},(∀ v,(x,v)∉binds)->bindL kindOf binds m x=m x
 | [],_,_=>rfl
 | (n,v)::r,m,h=>by
  unfold bindL;rw[zGS λw hw=>h w (qJ _ hw)];split
  .have:x≠n:=by rintro rfl;exact h v xq
   simp[this]
  .rfl
theorem zGU {kindOf:Str->Option NameKind}:∀ {binds:List (Str×Value)} {m:Str->Option Value},(∀ v,(x,v)∉binds)->bindC kindOf binds m x=m x
 | [],_,_=>rfl
 | (n,v)::r,m,h=>by
  unfold bindC;rw[zGU λw hw=>h w (qJ _ hw)];split
  .rfl
  .have:x≠n:=by rintro rfl;exact h v xq
   simp[this]
theorem zGT {kindOf:Str->Option NameKind}:∀ {P:List Str} {vs:List Value} {i:Nat} {m:Str->Option Value},P.Nodup->P[i]?=some x->vs[i]?=some v->kindOf x=some .local ->
  bindL kindOf (P.zip vs) m x=some v
 | [],_,_,_,_,h,_,_=>by simp at h
 | _::_,[],_,_,_,_,h,_=>by simp at h
 | p::P,w::vs,0,m,nd,h1,h2,hk=>by
  simp at h1 h2;subst h1;subst h2;show bindL kindOf ((p,w)::P.zip vs) m p=_;unfold bindL;rw[zGS λv hv=>(nodup_cons.mp nd).1 (of_mem_zip hv).1,if_pos hk];simp
 | p::P,w::vs,i+1,m,nd,h1,h2,hk=>by
  show bindL kindOf ((p,w)::P.zip vs) m x=_;unfold bindL;exact zGT (i:=i) (nodup_cons.mp nd).2 (by simpa using h1) (by simpa using h2) hk
theorem zGV {kindOf:Str->Option NameKind}:∀ {P:List Str} {vs:List Value} {i:Nat} {m:Str->Option Value},P.Nodup->P[i]?=some x->vs[i]?=some v->kindOf x≠some .local ->
  bindC kindOf (P.zip vs) m x=some v
 | [],_,_,_,_,h,_,_=>by simp at h
 | _::_,[],_,_,_,_,h,_=>by simp at h
 | p::P,w::vs,0,m,nd,h1,h2,hk=>by
  simp at h1 h2;subst h1;subst h2;show bindC kindOf ((p,w)::P.zip vs) m p=_;unfold bindC;rw[zGU λv hv=>(nodup_cons.mp nd).1 (of_mem_zip hv).1,if_neg hk];simp
 | p::P,w::vs,i+1,m,nd,h1,h2,hk=>by
  show bindC kindOf ((p,w)::P.zip vs) m x=_;unfold bindC;exact zGV (i:=i) (nodup_cons.mp nd).2 (by simpa using h1) (by simpa using h2) hk
noncomputable def zBt (N:List Str)(vs:List V):St:=vs.map some++List.replicate (N.length - vs.length) none
noncomputable def cxOf (CX:CXT)(P:Program)(w:World)(K:W.Frag)(mg:Str->Option Value)(base:Heap)(N:List Str)(qual:Str)(scope:Scope)(f:Addr)(cd:Value)(A:Around)(outer:List Env)(s:Shared)(H:Hp)(E:XK):Cx where
 prog:=P
 w:=w
 K:=K
 mg:=mg
 base:=base
 A:=A.deeper (envOfC qual scope s.heap.objs.size f cd)
 N:=N
 s0:=s
 Y6:=H
 env:=envOfC qual scope s.heap.objs.size f cd
 outer:=outer
 stack:=envOfC qual scope s.heap.objs.size f cd::outer
 ex:=[]
 calm:=true
 fn:=λ_=>true
 pn:=[]
 xe:=λe s'=>wpAny (model P w) (A.deeper (envOfC qual scope s.heap.objs.size f cd)) (leaving (envOfC qual scope s.heap.objs.size f cd) e) (λ_ s''=>CX outer H s E e s'') (λe' s''=>CX outer H s E e' s'') s'
theorem zH9 {sc:Scope}(h:sc.names.lookup x=some .cell):∃ c,(cellsFrom n sc.names []).lookup x=some c:=Option.isSome_iff_exists.mp (W.cellsFrom_some sc.names n [] (.inl h))
theorem zGC {K:W.Frag}
  (S:zAX N ps scope) (hd:A.handled=none) (hdp:A.depth+1+Builtin.pylongFrames < recursionLimit) (e0:Env0 P w K mg base A outer s H) (hl:vs.length=ps.length) (r:Vals vs us)
  (x:InCallC s s.heap.objs.size (bindL (envOfC qual scope s.heap.objs.size f cd).kindOf (ps.zip us) λ_=>none) (cellsFrom (s.heap.objs.size+1) scope.names []) (bindC (envOfC qual scope s.heap.objs.size f cd).kindOf (ps.zip us) λ_=>none) s1) :
  Inv (cxOf CX P w K mg base N qual scope f cd A outer s H E) [] (zBt N vs) H s1:=by
 have hpl:ps.length<=N.length:=by have:=congrArg List.length S.pre;rw[length_take] at this;omega
 obtain⟨h1,tk,rfl,hk⟩:=x.done;have noA:∀ b:Addr,b∉(cxOf CX P w K mg base N qual scope f cd A outer s H E).ex:=λb z=>absurd (show b∈([]:List Addr) from z) (by simp)
 refine⟨⟨e0.mod,S.kind,rfl,rfl,le_refl _,λy z c h1 h2=>?_,λy hy=>?_,λy c _ h=>?_,λ_=>hd,Around.frames_deeper e0.frames,.inr ⟨rfl,rfl⟩,λb z=>absurd z (noA b),e0.bs,e0.bsz,λb _ _=>noA b,λb z=>absurd z (noA b),e0.funs,e0.frf,⟨hdp,e0.tree,_,_,rfl,S.gen,S.co,rfl,rfl⟩,e0.tabs⟩,
  rfl,e0.bare,Un.kept hk,⟨_,x.toInCall.ns,λi y v h1 h2 h3=>?_⟩,λy c h=>⟨_,x.cell y c h⟩,e0.hok.fresh (le_refl _),λy c h=>?_,λp hp=>absurd (show p∈([]:List (Addr×Obj)) from hp) (by simp),e0.hok.kept hk,?_⟩
 .exact name_of_addr x.apart (PySem.mem_of_lookup h1) (PySem.mem_of_lookup h2)
 .have hy:=hy;rcases hy with hy | hy
  .exact zH9 hy
  .exact absurd rfl (S.nofree _ (PySem.mem_of_lookup hy))
 .exact Nat.le_of_lt (x.above y c (PySem.mem_of_lookup h))
 .have hi:i < vs.length:=by
   unfold zBt at h2;by_cases hi:i < vs.length
   .exact hi
   .rw [getElem?_append_right (by simpa using hi)] at h2;rw[getElem?_replicate] at h2;split at h2<;>cases h2
  have ha:vs[i]?=some v:=by
   unfold zBt at h2;rw[getElem?_append_left (by simpa using hi),getElem?_map] at h2
   simp_all
  obtain⟨u,hu,rv⟩:=r.get ha;have hp:ps[i]?=some y:=by
   rw[<- S.pre,List.getElem?_take_of_lt (by omega)];exact h1
  have ndP:ps.Nodup:=by rw[<- S.pre];exact S.nd.sublist (List.take_sublist _ _)
  refine⟨u,rv,?_⟩;rcases S.par y (mem_of_getElem? hp) with k | k
  .exact .inl ⟨k,zGT ndP hp hu k⟩
  .obtain ⟨c,e⟩:=zH9 (n:=s.heap.objs.size+1) k;refine .inr ⟨.inl k,c,e,?_⟩;have q:=x.cell y c e;rw[zGV ndP hp hu (by show scope.names.lookup y≠_;rw[k];decide)] at q;exact q
 .exact e0.hok.fresh (Nat.le_of_lt (x.above y c (PySem.mem_of_lookup h)))
 .unfold zBt;show _=N.length;rw[qQ,qy,length_replicate];omega
theorem zSi {K:W.Frag}{kV:Value}
     (lk:K.lookup f=some ⟨oc,od,.func (W.fnOf name qual params body scope dV kV doc pm an cdv ct),osl⟩) (hcd:W.codeIn K cdv qual=true) (S:zAX N ps scope)
  (len:∀ vs H Q E,sp vs H Q E->vs.length=ps.length)
  (hbody:∀ (A:Around) (outer:List Env) (s:Shared) (H:Hp) (vs:List V) (Q:VK) (E:XK),Room k (A.deeper (envOfC qual scope s.heap.objs.size f cdv))->sp vs H Q E ->
   ∃ t,PSs (cxOf CX P w K mg base N qual scope f cdv A outer s H E) body t/\t { nx:=λ_ H'=>Q .non H',rt:=Q } (zBt N vs) H) :
  FnOk P w K mg base CX (k+1) f (W.fnOf name qual params body scope dV kV doc pm an cdv ct) ps sp:=by
 refine⟨len,λA outer s H args us vs Q E hr e0 hb r hsp=>?_⟩;have hl:=len _ _ _ _ hsp;have KX:K.In s.heap:=e0.mod.kin.keeps λb o e=>(e0.bs b o e).1
 have hkind:∀ y∈ps.zip us,scope.names.lookup y.1=some .local\/(scope.names.lookup y.1=some .cell/\((cellsFrom (s.heap.objs.size+1) scope.names []).lookup y.1).isSome=true):=λzz33 hy=>by
  obtain⟨n,v⟩:=zz33;rcases S.par n (of_mem_zip hy).1 with q | q
  .exact .inl q
  .exact .inr ⟨q,W.cellsFrom_some _ _ _ (.inl q)⟩
 refine codeAny_call_function hr.depth (KX _ _ lk) rfl S.co S.gen rfl (W.codeRec_of KX hcd) (hb _ _ _ _ ?_);refine wpAny_newFunctionEnv_cells S.kind hkind λenv he s1 x=>?_
 subst he;refine⟨(e0.mod.nolimit.keeps λb o e=>(e0.bs b o e).1).keeps x.toInCall.keep,codeAny_func ?_⟩;obtain⟨t,ht,hq⟩:=hbody A outer s H vs Q E (hr.deeper _) hsp;refine wpAny_mono (ht [] s1 (zBt N vs) H _ (zGC S hr.hd (by have:=hr.dp;show A.depth+1+100 < _;omega) e0 hl r x) hq) (λfl s' hs=>?_) λe s' hs=>hs
 have fin:∀ {B':St} {H':Hp} {v:V} {u:Value},Inv (cxOf CX P w K mg base N qual scope f cdv A outer s H E) [] B' H' s'->RelV v u->Q v H'->CE outer P w H s Q u s' :=
  λ{B' H' v u} J rv q=>⟨v,H',J.os,J.bare,J.base,J.hok,rv,q⟩
 cases fl with
 | ret u =>
  obtain⟨v,B',H',J,rv,q⟩:=hs;exact fin J rv q
 | next =>
  obtain⟨B',H',J,q⟩:=hs;exact fin (v:=V.non) (u:=Value.none) J rfl q
 | brk =>
  obtain⟨_,_,_,q⟩:=hs;exact False.elim q
 | cont =>
  obtain⟨_,_,_,q⟩:=hs;exact False.elim q
section
variable {X:Cx}{x:Str}{p pos:Pos}{e:Expr}{es:List Expr}{t:TA}{id T:String}{r:List V->Hp->VK->Prop}
def tCB (r:List V->Hp->VK->Prop)(t:TA):TE:=λB H Q=>t B H λvs H1=>r vs H1 Q
theorem zFP (hc:zEJ X (.builtin id) r)(hg:Gl X x)(hm:X.mg x=none)(hv:bootBuiltins x=some (.builtin id))(ha:PA X (e::es) t)(hn:x ≠ "__name__":=by decide)(hdb:(x==("__debug__":Str))=false:=by decide)
  (he:starEach (e::es) X.env=(false,eval e X.env)::starEach es X.env:=by rfl) (hpl:(backTo pos (starEach es X.env)).any (·.1)=false:=by rfl):PE X (.Call (.Name x p) (e::es) [] pos) (tCB r t):=by
 intro pins s B H Q I h;refine wpAny_Call_Name_kw (zCe I hg hm hv ?_ hn hdb);exact PyProof.Rows.callWith_builtin1 (thn (ha pos pins s B H _ I h) λus s1 zy130=>by obtain⟨vs,H1,I1,r1,q1⟩:=zy130;exact hc pins s1 B H1 vs us Q I1 r1 q1) he hpl
theorem zFz (hc:zEJ X (.type T) r)(hg:Gl X x)(hm:X.mg x=none)(hv:bootBuiltins x=some (.type T))(ha:PA X (e::es) t)(hn:x ≠ "__name__":=by decide)(hdb:(x==("__debug__":Str))=false:=by decide)
  (he:starEach (e::es) X.env=(false,eval e X.env)::starEach es X.env:=by rfl) (hpl:(backTo pos (starEach es X.env)).any (·.1)=false:=by rfl):PE X (.Call (.Name x p) (e::es) [] pos) (tCB r t):=by
 intro pins s B H Q I h;refine wpAny_Call_Name_kw (zCe I hg hm hv ?_ hn hdb);exact PyProof.Rows.callWith_type1 (thn (ha pos pins s B H _ I h) λus s1 zy131=>by obtain⟨vs,H1,I1,r1,q1⟩:=zy131;exact hc pins s1 B H1 vs us Q I1 r1 q1) he hpl
end
end L2
namespace HT
open PySem PyProof.Rows
section
open PySem.SeqAt
open PySem.AutoSeq1 (wpAny_loadPart')
open PySem.MeetsSeq PySem.MeetsSeq2 PySem.MeetsSeq3
end
section
variable {prog:Program}{w:World}{A:Around}{E:Value->Shared->Prop}{s:Shared}
theorem zQT (ht:IsTup s.heap t vs.toArray)(hb:IsTup s.heap b ws.toArray)(hv:vs≠[])
  (h1:ws=[]->Q (.ref t) s) (h2:ws≠[]->Q (.ref s.heap.objs.size) { s with heap:=s.heap.push { cls:=.type "tuple",data:=.seq (vs++ws).toArray } })
  (hsz:vs.length+ws.length<=sizeLine):wpAny (model prog w) A (binaryOp .Add (.ref t) (.ref b)) Q E s:=by
 obtain⟨⟨cls,dd,data,sl⟩,ho,hc,n,hd⟩:=id ht;obtain⟨⟨cls2,dd2,data2,sl2⟩,ho2,hc2,n2,hd2⟩:=id hb
 simp_all
 by_cases hw:ws=[]
 .exact concat_meets ⟨_,ho,rfl⟩ ⟨_,ho2,rfl⟩ noFill_tuple_add seq_tuple_add PySem.F.slot_tuple_add PySem.F.entry_tuple_add (PySem.F.args_tuple_add_2 _ _)
   (tuple_addW1 t b vs.toArray ws.toArray n n2 dd dd2 sl sl2 (by simpa using hv) (by simp[hw])) ⟨ho,ho2,h1 hw⟩
 .refine concat_meets ⟨_,ho,rfl⟩ ⟨_,ho2,rfl⟩ noFill_tuple_add seq_tuple_add PySem.F.slot_tuple_add PySem.F.entry_tuple_add (PySem.F.args_tuple_add_2 _ _)
   (tuple_addW2 t b vs.toArray ws.toArray n n2 dd dd2 sl sl2 (by simpa using hv) (by simpa using hw) (by omega)) ⟨ho,ho2,?_⟩
  simp_all
noncomputable def sIx (n d:Nat):Option Int->Nat
 | none=>d
 | some v=>if v < 0 then (v+(n:Int)).toNat else min v.toNat n
theorem zFH (n d:Nat):sIx n d none=d:=rfl
theorem zGh (n d k:Nat):sIx n d (some (k:Int))=min k n:=rfl
theorem zQx (n d:Nat)(hd:d<=n)(o:Option Int):sIx n d o<=n:=by
 cases o with
 | none=>exact hd
 | some v =>
  show (if v < 0 then (v+_).toNat else min v.toNat n)<=n;grind
theorem zLP (v:Int)(n d:Nat):(if v < 0 then max (v+(n:Int)) 0 else min v (n:Int))=((sIx n d (some v):Nat):Int):=by
 show _=((if v < 0 then (v+_).toNat else min v.toNat n:Nat):Int);grind
theorem zIr (lo hi:Option Int)(n:Nat):Builtin.Slice.sliceAdjust lo hi 1 (n:Int)=(((sIx n 0 lo:Nat):Int),((sIx n n hi:Nat):Int)):=by
 refine Prod.ext ?_ ?_
 .cases lo with
  | none=>rfl
  | some v=>exact zLP v n 0
 .cases hi with
  | none=>rfl
  | some v=>exact zLP v n n
theorem zIS (i j:Nat):Builtin.Slice.slicePlaces (i:Int) (j:Int) 1=j - i:=by
 unfold Builtin.Slice.slicePlaces;grind
theorem zER (p:IsPart v o)(h:Q o s):wpAny (model prog w) A (Builtin.Slice.slicePartIndex v) Q E s:=by
 cases p with
 | none=>exact slicePart_none h
 | int i t=>exact slicePart_int h
theorem zDZ {lo hi:Option Int}{n:Nat}{Q:Int×Int×Nat->Shared->Prop}(hs:s.heap.IsSliceOf sl vl vu .none)(pl:IsPart vl lo)(pu:IsPart vu hi)
  (h:Q (((sIx n 0 lo:Nat):Int),1,sIx n n hi - sIx n 0 lo) s):wpAny (model prog w) A (Builtin.Slice.sliceApplied (.ref sl) (pure (n:Int))) Q E s:=by
 obtain⟨os,hos,hcs,hds⟩:=id hs;refine qX (qX (wpAny_field hos hds (x:=vl) rfl (qX (wpAny_field hos hds (x:=vu) rfl (qX (wpAny_field hos hds rfl (xy ?_)))))));refine qX (slicePart_none ?_);refine qX (zER pl (qX (zER pu (qX (xy ?_)))));simp;rw[zIr lo hi n];simp;rw[zIS];exact xy h
theorem zL7 (xs:Array Value)(i k:Nat):((List.range k).filterMap λ(m:Nat)=>xs[((i:Int)+(m:Int)*1).toNat]?).toArray=((xs.toList.drop i).take k).toArray:=by
 have e:(λ(m:Nat)=>xs[((i:Int)+(m:Int)*1).toNat]?)=λm=>xs[i+m]?:=by
  funext m;have:((i:Int)+(m:Int)*1).toNat=i+m:=by omega
  rw[this]
 rw[e];have:=pick_run xs i k
 simp_all
 assumption
theorem zDJ {lo:Option Int}(ht:IsTup s.heap t items)(hs:s.heap.IsSliceOf sl vl vu .none)(pl:IsPart vl lo)(pu:IsPart vu hi)
  (hw:¬ (sIx items.size 0 lo=0/\sIx items.size items.size hi=items.size))
  (h:Q (.ref s.heap.objs.size) { s with heap:=s.heap.push { cls:=.type "tuple",data:=.seq ((items.toList.drop (sIx items.size 0 lo)).take (sIx items.size items.size hi - sIx items.size 0 lo)).toArray } })
  (hsz:items.size<=sizeLine):wpAny (model prog w) A (getItem (.ref t) (.ref sl)) Q E s:=by
 have htake:sizeOk (.seq ((items.toList.drop (sIx items.size 0 lo)).take (sIx items.size items.size hi - sIx items.size 0 lo)).toArray):=by
  show ((items.toList.drop (sIx items.size 0 lo)).take (sIx items.size items.size hi - sIx items.size 0 lo)).toArray.size<=sizeLine;rw[xQ,length_take,length_drop,Array.length_toList];omega
 have hj:sIx items.size items.size hi<=items.size:=zQx _ _ (le_refl _) hi;obtain⟨os,hos,hcs,hds⟩:=id hs;have hTs:s.TypeIs (.ref sl) "slice":=⟨os,hos,hcs⟩;unfold getItem
 try with_reducible refine wpAny_holding ?_
 first | refine qX (xy ?_) | skip
 refine qX (wpAny_sequenceKey ht.typeIs (by decide) ?_);refine qX (wpAny_callSpecial?_slot (name:=Str.ofString "__getitem__") ht.typeIs PyProof.Rows.slot_tuple_getitem
  (wpAny_call_entry PyProof.Rows.slot_tuple_getitem ht.typeIs entry_tuple_getitem ?_ (args_tuple_getitem _ _)))
 show wpAny _ _ (Builtin.Tuple.tupleItemsOf (.ref t)>>=_) _ _ s;refine qX (tupleItemsOf_ ht ?_);refine qX (wpAny_typeOf hTs ?_);rw[if_pos (by decide)];refine qX (zDZ hs pl pu ?_);have hno:¬ ((((sIx items.size 0 lo:Nat):Int)==0&&(1:Int)==1&&(sIx items.size items.size hi - sIx items.size 0 lo)==items.size)=true):=by
  grind
 show wpAny _ _ (if _=true then _ else _) _ _ s;rw[if_neg hno,zL7]
 first
  | exact qX (m:=Builtin.Tuple.tupleExact _) (wpAny_newObj_type (xy ⟨_,rfl,xy h⟩) htake)
  | exact qX (m:=Builtin.Tuple.tupleExact _) (wpAny_newObj_type (qX (xy (xy ⟨_,rfl,xy h⟩))) htake)
  | exact qX (qX (m:=Builtin.Tuple.tupleExact _) (wpAny_newObj_type (xy (xy ⟨_,rfl,xy h⟩)) htake))
  | exact qX (qX (m:=Builtin.Tuple.tupleExact _) (wpAny_newObj_type (xy ⟨_,rfl,xy h⟩) htake))
end
end HT
namespace L2
open PySem Spec PyProof.Rows
abbrev TO:=St->Hp->(Option Int->Hp->Prop)->Prop
def PO (X:Cx)(e:Option Expr)(t:TO):Prop :=
 ∀ (pins:List (Addr×Obj)) (s:Shared) (B:St) (H:Hp) (Q:Option Int->Hp->Prop),Inv X pins B H s->t B H Q ->
  wpAny (model X.prog X.w) X.A (evalPart e X.env) (λu s'=>∃ o H',Inv X pins B H' s'/\IsPart u o/\Q o H') X.xe s
def zOZ:TO:=λ_ H Q=>Q none H
def zTU (t:TE):TO:=λB H Q=>t B H λx H1=>∃ i,x=.int i/\Q (some i) H1
section
variable {X:Cx}{e:Expr}{te:TE}{lo hi:Option Expr}{tl th:TO}{pos p2:Pos}
theorem zGn:PO X none zOZ:=by
 intro pins s B H Q I h;exact xy ⟨none,H,I,.none,h⟩
theorem zGm (h:PE X e te):PO X (some e) (zTU te):=by
 intro pins s B H Q I hw;refine thn (h pins s B H _ I hw) λu s1 zz34=>?_
 obtain⟨x,H1,I1,r1,q1⟩:=zz34;obtain⟨i,rfl,q⟩:=q1;obtain⟨t,rfl⟩:=r1;exact⟨some i,H1,I1,.int i t,q⟩
def SlR (X:Cx)(r:V->Option Int->Option Int->Hp->VK->Prop):Prop :=
 ∀ (pins:List (Addr×Obj)) (s:Shared) (B:St) (H:Hp) (x:V) (v vl vu:Value) (lo hi:Option Int) (sl:Addr) (Q:VK),Inv X pins B H s->RelV x v->s.heap.IsSliceOf sl vl vu .none->IsPart vl lo->IsPart vu hi->r x lo hi H Q ->
  ∃ T id,typeLookup (.type T) "__getitem__"=pure (some (.builtin id))/\s.TypeIs v T/\wpAny (model X.prog X.w) X.A (getItem v (.ref sl)) (EP X pins B Q) X.xe s
theorem SlR.or (h:SlR X r)(h':SlR X r'):SlR X (λx lo hi H Q=>r x lo hi H Q\/r' x lo hi H Q):=by
 intro pins s B H x v vl vu lo hi sl Q I rx hs pl pu q;rcases q with q | q
 .exact h pins s B H x v vl vu lo hi sl Q I rx hs pl pu q
 .exact h' pins s B H x v vl vu lo hi sl Q I rx hs pl pu q
def tSl (r:V->Option Int->Option Int->Hp->VK->Prop)(te:TE)(tl th:TO):TE:=λB H Q=>te B H λx H1=>tl B H1 λl H2=>th B H2 λu H3=>r x l u H3 Q
theorem zFO (hr:SlR X r)(he:PE X e te)(hl:PO X lo tl)(hu:PO X hi th):PE X (.Subscript e (.Slice lo hi none p2) pos) (tSl r te tl th):=by
 intro pins s B H Q I h;refine Subscript_ (thn (he pins s B H _ I h) λv s1 zz35=>?_);obtain⟨x,H1,I1,r1,q1⟩:=zz35;refine wpAny_Slice (thn (hl pins s1 B H1 _ I1 q1) λvl s2 ⟨l,H2,I2,pl,q2⟩=>thn (hu pins s2 B H2 _ I2 q2) λvu s3 zz36=>?_);obtain⟨u,H3,I3,pu,q3⟩:=zz36;refine xy ?_;have I4:Inv X pins B H3 { s3 with heap:=s3.heap.push { cls:=.type "slice",data:=.fields #[vl,vu,.none] } }:=I3.kept λb ob q=>get?_push_of_some _ q
 obtain⟨T,id,hT,ht,hg⟩:=hr pins { s3 with heap:=s3.heap.push { cls:=.type "slice",data:=.fields #[vl,vu,.none] } } B H3 x v vl vu l u s3.heap.objs.size Q I4 r1 (Heap.IsSliceOf.new ..) pl pu q3;exact tail_any ht hT hg rfl
noncomputable def cutV (xs:List V)(lo hi:Option Int):List V:=(xs.drop (HT.sIx xs.length 0 lo)).take (HT.sIx xs.length xs.length hi - HT.sIx xs.length 0 lo)
theorem zEA (xs:List V)(lo hi:Option Int):(cutV xs lo hi).length<=xs.length:=by
 unfold cutV;simp;omega
def rSlT (K:W.Frag):V->Option Int->Option Int->Hp->VK->Prop:=λx lo hi H Q=>∃ a xs,x=.ref a/\SqT K H a xs /\
 ¬ (HT.sIx xs.length 0 lo=0/\HT.sIx xs.length xs.length hi=xs.length)/\∀ p,H p=none->Q (.ref p) (upd H p (.tup (cutV xs lo hi)))
theorem zQw:SlR X (rSlT X.K):=by
 intro pins s B H x v vl vu lo hi sl Q I rx hs pl pu h;obtain⟨a,xs,rfl,hx,hw,q⟩:=h;cases rx;obtain⟨its,r,ht,hz⟩:=I.tuple hx;have hlen:its.toArray.size=xs.length:=by rw[xQ];exact r.length.symm
 refine⟨"tuple",_,PyProof.Rows.slot_tuple_getitem.lookup,ht.typeIs,?_⟩;refine HT.zDJ ht hs pl pu (by grind) ?_ (by simp_all);rw[hlen];refine⟨.ref s.heap.objs.size,_,I.laid (λb ob q=>get?_push_of_some _ q) (le_refl _) ?_,rfl,q _ (I.hok.fresh (le_refl _))⟩;exact⟨le_trans (zEA xs lo hi) hz,_,(r.drop _).take _,IsTup.new _ _⟩
def zQ4 (K:W.Frag):R2:=λx y H Q=>∃ a b xs ys,x=.ref a/\y=.ref b/\SqT K H a xs/\SqT K H b ys/\xs≠[]/\xs.length+ys.length<=sizeLine /\
 (ys=[]->Q (.ref a) H)/\(ys≠[]->∀ p,H p=none->Q (.ref p) (upd H p (.tup (xs++ys))))
theorem Vals.nil_iff (r:Vals xs us):us=[]<->xs=[]:=by
 cases r with
 | nil=>simp
 | cons _ _=>simp
theorem zJl:OpR X (binaryOp .Add) (zQ4 X.K):=by
 intro pins s B H x y v u Q I rx ry h;obtain⟨a,b,xs,ys,rfl,rfl,ha,hb,hx,hz,q1,q2⟩:=h;cases rx;cases ry;obtain⟨its,r1,p1,_⟩:=I.tuple ha;obtain⟨its2,r2,p2,_⟩:=I.tuple hb;refine HT.zQT p1 p2 (λz=>hx (r1.nil_iff.mp z)) (λz=>⟨.ref a,H,I,rfl,q1 (r2.nil_iff.mp z)⟩) (λz=>?_) (by rw[<- r1.length,<- r2.length];exact hz);refine⟨.ref s.heap.objs.size,_,I.laid (λb ob q=>get?_push_of_some _ q) (le_refl _) ?_,rfl,q2 (λw=>z (r2.nil_iff.mpr w)) _ (I.hok.fresh (le_refl _))⟩;exact⟨by rw[qQ];exact hz,_,r1.append r2,IsTup.new _ _⟩
end
end L2
namespace L2
open PySem Spec PyProof.Rows
noncomputable def ixN (n:Nat)(i:Int):Option Nat:=if 0<=i then (if i < n then some i.toNat else none) else if -(n:Int)<=i then some (i+n).toNat else none
noncomputable def atI {T:Type}(xs:List T)(i:Int):Option T:=(ixN xs.length i).bind λj=>xs[j]?
theorem zKI (h:ixN n i=some j):seqIndex? i n=some j/\j < n/\-(n:Int)<=i/\i < n:=by
 unfold ixN at h;by_cases h0:0<=i
 .rw [if_pos h0] at h;by_cases h1:i < n
  .rw [if_pos h1] at h;have e:i.toNat=j:=xX h;exact⟨by rw[seqIndex_of h0 h1,e],by omega,by omega,h1⟩
  .simp_all
 .rw [if_neg h0] at h;by_cases h1:-(n:Int)<=i
  .rw [if_pos h1] at h;have e:(i+n).toNat=j:=xX h;exact⟨by rw[seqIndex_neg (by omega) h1,e],by omega,h1,by omega⟩
  .simp_all
theorem zLV {T:Type}{xs:List T}{i:Int}{v:T}(h:atI xs i=some v):∃ j,seqIndex? i xs.length=some j/\xs[j]?=some v/\j < xs.length/\-(xs.length:Int)<=i/\i < xs.length:=by
 unfold atI at h;cases e:ixN xs.length i with
 | none=>rw[e] at h;cases h
 | some j =>
  simp_all
  obtain⟨h1,h2,h3,h4⟩:=zKI e;exact⟨j,h1,h,h2,h3,h4⟩
theorem zBT {T:Type}{xs:List T}{j:Nat}{v:T}(h:xs[j]?=some v):atI xs (j:Int)=some v:=by
 have hj:=(zzg h).1;have e:ixN xs.length j=some j:=by
  unfold ixN
  simp_all
 unfold atI;rw[e];exact h
def zFl (b:Expr):Prop:=∀ o i,subscripted b false o i=operate [o,i] (getItem o i)
def IxR (X:Cx)(r:R2):Prop :=
 ∀ (value slice:Expr) (pins:List (Addr×Obj)) (s:Shared) (B:St) (H:Hp) (x y:V) (v u:Value) (Q:VK),Inv X pins B H s->RelV x v->RelV y u->r x y H Q ->
  subscripted slice false v u=operate [v,u] (getItem v u)->wpAny (model X.prog X.w) X.A (subscriptTail value slice v u) (EP X pins B Q) X.xe s
def MtR (X:Cx)(id:String)(r:V->List V->Hp->VK->Prop):Prop :=
 ∀ (pins:List (Addr×Obj)) (s:Shared) (B:St) (H:Hp) (x:V) (xs:List V) (v:Value) (us:List Value) (Q:VK),Inv X pins B H s->RelV x v->Vals xs us->r x xs H Q ->
  wpAny (model X.prog X.w) X.A (call (.builtin id) (v::us)) (EP X pins B Q) X.xe s
section
variable {X:Cx}{a b:Expr}{ta tb:TE}{pos:Pos}
theorem IxR.or (h:IxR X r)(h':IxR X r'):IxR X (λx y H Q=>r x y H Q\/r' x y H Q):=by
 intro value slice pins s B H x y v u Q I rx ry q hs;rcases q with q | q
 .exact h value slice pins s B H x y v u Q I rx ry q hs
 .exact h' value slice pins s B H x y v u Q I rx ry q hs
theorem zRH (hr:IxR X r)(ha:PE X a ta)(hb:PE X b tb)(hs:zFl b):PE X (.Subscript a b pos) (tOp r ta tb):=by
 intro pins s B H Q I h;exact Subscript_ (binT ha hb I h λv u s2 x y H2 I2 rx ry q=>hr a b pins s2 B H2 x y v u Q I2 rx ry q (hs _ _))
def rIxL (K:W.Frag):R2:=λx y H Q=>∃ p xs i v,x=.ref p/\y=.int i/\SqL K H p xs/\atI xs i=some v/\Q v H
def rIxT (K:W.Frag):R2:=λx y H Q=>∃ p xs i v,x=.ref p/\y=.int i/\SqT K H p xs/\atI xs i=some v/\Q v H
theorem zKH:IxR X (rIxL X.K):=by
 intro value slice pins s B H x y v u Q I rx ry h hs;obtain⟨p,xs,i,z,rfl,rfl,hq,he,q⟩:=h;cases rx;obtain⟨t,rfl⟩:=ry;obtain⟨its,r,pl,hz⟩:=I.list hq;obtain⟨j,h1,h2,h3,h4,h5⟩:=zLV he;obtain⟨w,ew,rw'⟩:=r.get h2;have hl:=r.length;have hn:=zHl;have fin:EP X pins B Q w s:=⟨z,H,I,rw',q⟩;by_cases h0:0<=i
 .have hj:i.toNat=j:=by
   rw[seqIndex_of h0 h5] at h1;exact xX h1
  exact item_listR pl.isList h0 (by omega) (by rw[hj];simpa using ew) fin hs
 .have hj:(i+(its.toArray.size:Int)).toNat=j:=by
   rw[seqIndex_neg (by omega) h4] at h1
   simp_all
  exact subscriptTail_builtinR (x:=w) pl.isList.typeIs slot_list_getitem.lookup
   (wpAny_getItem_list_neg pl.isList (by omega) (by rw[xQ]<;>omega) (by omega) (by rw[hj];simpa using ew) ⟨rfl,fin⟩) hs
theorem zN3:IxR X (rIxT X.K):=by
 intro value slice pins s B H x y v u Q I rx ry h hs;obtain⟨p,xs,i,z,rfl,rfl,hq,he,q⟩:=h;cases rx;obtain⟨t,rfl⟩:=ry;obtain⟨its,r,pl,hz⟩:=I.tuple hq;obtain⟨j,h1,h2,h3,h4,h5⟩:=zLV he;obtain⟨w,ew,rw'⟩:=r.get h2;have hl:=r.length;have hn:=zHl;exact subscriptTail_builtinR pl.typeIs slot_tuple_getitem.lookup
  (getItem_tuple (j:=j) pl (by omega) (by omega) (by simp_all) (by simpa using ew) ⟨rfl,(⟨z,H,I,rw',q⟩)⟩) hs
theorem zIX (its:List Value)(n j:Nat)(u:Value):Obj.mapSeq (·.setIfInBounds j u) { cls:=.type "list",data:=.seq its.toArray n }={ cls:=.type "list",data:=.seq (its.set j u).toArray n }:=by
 simp[Obj.mapSeq]
theorem Inv.lst {pins:List (Addr×Obj)}{B:St}{H:Hp}{s:Shared}{p:Addr}{xs:List V}(I:Inv X pins B H s)(h:H p=some (.lst xs)) :
  ∃ (its:List Value) (n:Nat),Vals xs its/\s.heap.get? p=some { cls:=.type "list",data:=.seq its.toArray n }/\xs.length<=sizeLine:=by
 obtain⟨z,its,n,r,e⟩:=I.hok p _ h;exact⟨its,n,r,e,z⟩
theorem Inv.lstUpd {pins:List (Addr×Obj)}{B:St}{H:Hp}{s:Shared}{p:Addr}{xs ys:List V}{its its':List Value}{n n':Nat}{f:Obj->Obj}(I:Inv X pins B H s)(h:H p=some (.lst xs))
  (ho:s.heap.get? p=some { cls:=.type "list",data:=.seq its.toArray n }) (hf:f { cls:=.type "list",data:=.seq its.toArray n }={ cls:=.type "list",data:=.seq its'.toArray n' }) (r:Vals ys its') (hz:ys.length<=sizeLine) (t:Nat) :
  Inv X pins B (upd H p (.lst ys)) { s with heap:=s.heap.update p f,toks:=t }:=by
 have e:(s.heap.update p f).get? p=some { cls:=.type "list",data:=.seq its'.toArray n' }:=by
  rw[Heap.get?_update_self f ho (by rw[hf]<;>rfl),hf]
 refine I.write (by rw[h];trivial) (.inl rfl) (λb u hb q=>(Heap.get?_update_other _ _ (Ne.symm hb)).trans q) ⟨_,e⟩ ?_;exact⟨hz,its',n',r,e⟩
def zTb:V->V->V->Hp->(Hp->Prop)->Prop:=λo i v H Q=>∃ p xs k j,o=.ref p/\i=.int k/\H p=some (.lst xs)/\ixN xs.length k=some j/\Q (upd H p (.lst (xs.set j v)))
theorem zLz:PSet X zTb:=by
 intro pins s B H o i v ov iv u Q I ro ri rv h;obtain⟨p,xs,k,j,rfl,rfl,hp,hj,q⟩:=h;cases ro;obtain⟨t,rfl⟩:=ri;obtain⟨its,n,r,ho,hz⟩:=I.lst hp;obtain⟨h1,h2,h3,h4⟩:=zKI hj;have hl:=r.length;have hn:=zHl;have I' :=
  I.lstUpd hp ho (zIX its n j u) (r.set rv j) (by rw[length_set];exact hz) s.toks
 by_cases h0:0<=k
 .have hk:k.toNat=j:=by
   rw[seqIndex_of h0 h4] at h1;exact xX h1
  exact W.ki_setAt ho h0 (by omega) (by simp_all) (by rw[hk];exact⟨_,I',q⟩)
 .have hk:(k+(its.toArray.size:Int)).toNat=j:=by
   rw[seqIndex_neg (by omega) h3] at h1;grind
  exact W.ki_setBack ho (by omega) (by simp_all) (by omega) (by rw[hk];exact⟨_,I',q⟩)
theorem zFu (lo hi:Option Int)(n:Nat):(sliceBounds lo hi none n).1=((HT.sIx n 0 lo:Nat):Int)/\(sliceBounds lo hi none n).2.1=((HT.sIx n n hi:Nat):Int)/\(sliceBounds lo hi none n).2.2=1:=by
 refine⟨?_,?_,rfl⟩
 .cases lo with
  | none=>simp[sliceBounds,HT.sIx]
  | some i =>
   simp only[sliceBounds,HT.sIx,Option.getD_none,show (1:Int)>0 by decide,if_true];by_cases h:i < 0
   .simp only [h,if_true]<;>omega
   .simp only [h,if_false]<;>omega
 .cases hi with
  | none=>simp[sliceBounds,HT.sIx]
  | some i =>
   simp only[sliceBounds,HT.sIx,Option.getD_none,show (1:Int)>0 by decide,if_true];by_cases h:i < 0
   .simp only [h,if_true]<;>omega
   .simp only [h,if_false]<;>omega
theorem zFE (its:List Value)(lo hi:Option Int):slicePick its.toArray lo hi none=((its.drop (HT.sIx its.length 0 lo)).take (HT.sIx its.length its.length hi - HT.sIx its.length 0 lo)).toArray:=by
 obtain⟨h1,h2,h3⟩:=zFu lo hi its.toArray.size;unfold slicePick;rw[h1,h2,h3];simp only[sliceRange_one,pick_run]<;>rfl
def rSlL (K:W.Frag):V->Option Int->Option Int->Hp->VK->Prop:=λx lo hi H Q=>∃ a xs,x=.ref a/\SqL K H a xs/\∀ p,H p=none->Q (.ref p) (upd H p (.lst (cutV xs lo hi)))
theorem zGc:SlR X (rSlL X.K):=by
 intro pins s B H x v vl vu lo hi sl Q I rx hs pl pu h;obtain⟨a,xs,rfl,hx,q⟩:=h;cases rx;obtain⟨its,r,ht,hz⟩:=I.list hx;have hlen:=r.length;refine⟨"list",_,slot_list_getitem.lookup,ht.isList.typeIs,?_⟩;refine wpAny_getItem_list_slice ht.isList hs pl pu .none (by simp) ?_ (by grind);rw[zFE,<- hlen];refine⟨.ref s.heap.objs.size,_,I.laid (λb ob q=>get?_push_of_some _ q) (le_refl _) ?_,rfl,q _ (I.hok.fresh (le_refl _))⟩;exact⟨le_trans (zEA xs lo hi) hz,_,0,(r.drop _).take _,get?_push_size _ rfl⟩
theorem zGQ:zEJ X (.builtin "len") (λxs H Q=>∃ p ys,xs=[.ref p]/\(SqL X.K H p ys\/SqT X.K H p ys)/\Q (.int ys.length) H):=by
 intro pins s B H xs us Q I r h;obtain⟨p,ys,rfl,hq,q⟩:=h;obtain⟨u,rfl,rx⟩:=zII r;cases rx;have hn:=zHl;rcases hq with hq | hq
 .obtain ⟨its,r',pl,hz⟩:=I.list hq;have hlen:=r'.length;exact Calls.call_len_list pl.isList (by simp only[xQ]<;>omega) ⟨.int ys.length,H,I.tok _,⟨s.toks+1,by rw[xQ,hlen]⟩,q⟩
 .obtain ⟨its,r',pl,hz⟩:=I.tuple hq;have hlen:=r'.length;exact len_tuple pl (by simp only[xQ]<;>omega) ⟨.int ys.length,H,I.tok _,⟨s.toks+1,by rw[xQ,hlen]⟩,q⟩
theorem zDW:zEJ X (.type "list") (λxs H Q=>∃ p ys,xs=[.ref p]/\(SqL X.K H p ys\/SqT X.K H p ys)/\∀ l,H l=none->Q (.ref l) (upd H l (.lst ys))):=by
 intro pins s B H xs us Q I r h;obtain⟨p,ys,rfl,hq,q⟩:=h;obtain⟨u,rfl,rx⟩:=zII r;cases rx;have fin:∀ (its:List Value),Vals ys its->ys.length<=sizeLine->∀ (h':Heap) (c':Nat),_ ->
   h'.get? s.heap.objs.size=some { cls:=.type "list",dict:=none,data:=.seq its.toArray c',slots:=#[] }->EP X pins B Q _ { s with heap:=h' }:=λits r' hz h' c' kp e =>
  ⟨.ref s.heap.objs.size,_,I.laid (t':=s.toks) kp (le_refl _) (show zCP X.prog X.w _ h' _ (.lst ys) from ⟨hz,its,c',r',e⟩),rfl,q _ (I.hok.fresh (le_refl _))⟩
 rcases hq with hq | hq
 .obtain ⟨its,r',pl,hz⟩:=I.list hq;have hlen:=r'.length;obtain⟨o,ho,hc,n,hd⟩:=pl.isList;exact call_list_seq p (.inl rfl) ho hc hd (λh' c' kp e=>fin its r' hz h' c' kp e) (by simp_all)
 .obtain ⟨its,r',pl,hz⟩:=I.tuple hq;have hlen:=r'.length;obtain⟨o,ho,hc,n,hd⟩:=pl;exact call_list_seq p (.inr rfl) ho hc hd (λh' c' kp e=>fin its r' hz h' c' kp e) (by grind)
theorem zFf:zEJ X (.type "tuple") (λxs H Q=>∃ p ys,xs=[.ref p]/\((SqL X.K H p ys/\∀ l,H l=none->Q (.ref l) (upd H l (.tup ys)))\/(SqT X.K H p ys/\Q (.ref p) H))):=by
 intro pins s B H xs us Q I r h;obtain⟨p,ys,rfl,h⟩:=h;obtain⟨u,rfl,rx⟩:=zII r;cases rx;rcases h with ⟨hq,q⟩ | ⟨hq,q⟩
 .obtain ⟨its,r',pl,hz⟩:=I.list hq;have hlen:=r'.length;refine call_tuple_list pl.isList (λh' kp=>?_) (by grind);have I1:=I.kept (t':=s.toks) kp;have I2 :=
   I1.laid (t':=s.toks) (λb o e=>get?_push_of_some _ e) (le_refl _) (show zCP X.prog X.w _ _ _ (.tup ys) from ⟨hz,its,r',IsTup.new _ _⟩)
  exact⟨.ref h'.objs.size,_,I2,rfl,q _ (I1.hok.fresh (le_refl _))⟩
 .obtain ⟨its,r',pl,hz⟩:=I.tuple hq;exact call_tuple_same pl ⟨.ref p,H,I,rfl,q⟩
def tyV (K:W.Frag)(T:String)(x:V)(H:Hp):Prop:=match x with
 | .str _=>T = "str"
 | .int _=>T = "int"
 | .ref p=>(T = "list"/\∃ xs,SqL K H p xs)\/(T = "tuple"/\∃ o,K.lookup p=some o/\o.cls=.type "tuple"/\o.dict=none) \/
   (T = "dict"/\((∃ kvs,H p=some (.dK kvs))\/∃ kvs,H p=some (.dT kvs)))\/(T = "set"/\∃ S n,H p=some (.set S n))
 | _=>False
theorem zQj {pins:List (Addr×Obj)}{B:St}{H:Hp}{s:Shared}{T:String}{x:V}{v:Value}(I:Inv X pins B H s)(r:RelV x v)(ty:tyV X.K T x H) :
  s.TypeIs v T/\∀ a,v=.ref a->∃ ob,s.heap.get? a=some ob/\ob.dict=none:=by
 cases x with
 | str z =>
  obtain⟨t,rfl⟩:=r;cases ty;exact⟨typeIs_str s z t,λ_ e=>nomatch e⟩
 | int i =>
  obtain⟨t,rfl⟩:=r;cases ty;exact⟨typeIs_int s i t,λ_ e=>nomatch e⟩
 | ref p =>
  cases r;rcases ty with ⟨rfl,xs,hq⟩ | ⟨rfl,o,hk,hc,hd⟩ | ⟨rfl,hk⟩ | ⟨rfl,S,n,hk⟩
  .obtain ⟨its,_,pl,_⟩:=I.list hq;refine⟨pl.isList.typeIs,λa e=>?_⟩;cases e;obtain⟨o,n,e,c,hd,_⟩:=pl;exact⟨o,e,hd⟩
  .refine ⟨⟨o,I.kIn p o hk,hc⟩,λa e=>?_⟩;cases e;exact⟨o,I.kIn _ o hk,hd⟩
  .have z:∃ o,s.heap.get? p=some o/\o.ExactDict:=by
    rcases hk with ⟨kvs,hk⟩ | ⟨kvs,hk⟩
    .obtain ⟨_,_,_,_,o,_,_,e,ex,_⟩:=I.hok p _ hk;exact⟨o,e,ex⟩
    .obtain ⟨_,_,_,_,o,_,_,e,ex,_⟩:=I.hok p _ hk;exact⟨o,e,ex⟩
   obtain⟨o,e,ex⟩:=z;refine⟨⟨o,e,ex.1⟩,λa e2=>?_⟩;cases e2;exact⟨o,e,ex.2.1⟩
  .obtain ⟨o,_,_,_,e,ex,_⟩:=I.hok p _ hk;refine⟨⟨o,e,ex.1⟩,λa e2=>?_⟩;cases e2;exact⟨o,e,ex.2.1⟩
 | _=>exact False.elim ty
def tBM (K:W.Frag)(T:String)(r:V->List V->Hp->VK->Prop)(to:TE)(t:TA):TE:=λB H Q=>to B H λx H1=>tyV K T x H1/\t B H1 λxs H2=>r x xs H2 Q
variable {o e:Expr}{es:List Expr}{to:TE}{t:TA}{name:Str}{apos cpos:Pos}{T id:String}{r:V->List V->Hp->VK->Prop}
theorem zOp (pa:PlainAttrs T)(slot:Slot T name id)(hty:typeOf (.builtin id)=pure (.type "method_descriptor"))(hm:MtR X id r)(ho:PE X o to)(ha:PA X (e::es) t)
  (hbase:attributeBase o name X.env (eval o X.env)=eval o X.env:=by rfl)
  (hfew:((backTo cpos (starEach (e::es) X.env)).all (λx=>!x.1)&&(backToKw cpos (keywordEach [] X.env)).all (λx=>x.1.isSome)
   && decide ((e::es).length+([]:List Keyword).length+(if ([]:List Keyword).isEmpty then 0 else 1) < 30))=true:=by rfl)
  (hline:(apos.endLine==cpos.line)=true:=by rfl) (hs:starEach (e::es) X.env=(false,eval e X.env)::starEach es X.env:=by rfl) (hplain:(backTo cpos (starEach es X.env)).any (·.1)=false:=by rfl) :
  PE X (.Call (.Attribute o name apos) (e::es) [] cpos) (tBM X.K T r to t):=by
 intro pins s B H Q I h;refine wpAny_Call_method_late hbase hfew hline rfl (thn (ho pins s B H _ I h) λv s1 zz37=>?_);obtain⟨x,H1,I1,r1,ty,q1⟩:=zz37;obtain⟨h1,h2⟩:=zQj I1 r1 ty;refine⟨T,id,pa,slot,hty,h1,h2,?_⟩;have hA:=ha cpos pins s1 B H1 _ I1 q1;rw[hs] at hA ⊢;refine Calls.callWith_builtin (by show (false||(backTo cpos (starEach es X.env)).any (·.1))=false;rw[hplain]<;>rfl) (Calls.evalArgs_plain ?_);exact thn hA λus s2 zy132=>by obtain⟨vs,H2,I2,r2,q2⟩:=zy132;exact hm pins s2 B H2 x vs v us Q I2 r1 r2 q2
end
def MtM (X:Cx)(id:String)(r:V->List V->Hp->VK->Prop):Prop :=
 ∀ (pins:List (Addr×Obj)) (s:Shared) (B:St) (H:Hp) (x:V) (xs:List V) (v:Value) (us:List Value) (Q:VK),Inv X pins B H s->RelV x v->Vals xs us->r x xs H Q ->
  wpAny (model X.prog X.w) X.A (call (.builtin id) (v::us)) (EP X pins B Q) X.xe s
theorem Vals.one:∀ {x:V} {us:List Value},Vals [x] us->∃ u,us=[u]/\RelV x u
 | _,_,.cons r .nil=>⟨_,rfl,r⟩
theorem Vals.two (h:Vals [x,y] us):∃ u v,us=[u,v]/\RelV x u/\RelV y v:=by
 cases h with
 | cons r t =>
  cases t with
  | cons q t2 =>
   cases t2;exact⟨_,_,rfl,r,q⟩
theorem Vals.zero:∀ {us:List Value},Vals [] us->us=[]
 | _,.nil=>rfl
theorem Vals.dropLast (h:Vals xs us):Vals xs.dropLast us.dropLast:=by
 induction h with
 | nil=>exact .nil
 | cons r t ih =>
  cases t with
  | nil=>exact .nil
  | cons q t'=>exact .cons r ih
theorem Vals.reverse (h:Vals xs us):Vals xs.reverse us.reverse:=by
 induction h with
 | nil=>exact .nil
 | cons r t ih=>rw[reverse_cons,reverse_cons];exact Vals.append ih (.cons r .nil)
section
variable {X:Cx}{pins:List (Addr×Obj)}{B:St}{H:Hp}{s:Shared}{l b:Addr}{xs ys zs:List V}
theorem Inv.lset {its:List Value}(I:Inv X pins B H s)(hH:H l=some (.lst xs))
  (e:s.heap.get? l=some { cls:=.type "list",data:=.seq its.toArray n }) (hf:f its.toArray=its'.toArray) (hv:Vals ys its') (hz:ys.length<=sizeLine) :
  Inv X pins B (upd H l (.lst ys)) { s with heap:=s.heap.update l (Obj.mapSeq f),toks:=t' }:=by
 have q:=PySem.IsL.update e f
 simp_all
 refine I.write (by rw[hH];exact trivial) (.inl rfl) (λb' u hb hu=>(Heap.get?_update_other s.heap _ (Ne.symm hb)).trans hu) ⟨_,q⟩ ?_;exact⟨hz,its',_,hv,q⟩
theorem Inv.lnew (I:Inv X pins B H s)(hv:Vals ys its)(hz:ys.length<=sizeLine) :
  Inv X pins B (upd H s.heap.objs.size (.lst ys)) { s with heap:=s.heap.push { cls:=.type "list",data:=.seq its.toArray },toks:=t' } :=
 I.laid (λ_ _ q=>get?_push_of_some _ q) (le_refl _) ⟨hz,its,0,hv,get?_push_size _ rfl⟩
theorem Inv.fresh (I:Inv X pins B H s):H s.heap.objs.size=none:=I.hok.fresh (le_refl _)
theorem Inv.lstM (I:Inv X pins B H s)(hH:H l=some (.lst xs)):xs.length<=sizeLine/\∃ (its:List Value) (n:Nat),Vals xs its/\xs.length=its.length/\s.heap.get? l=some { cls:=.type "list",data:=.seq its.toArray n }:=by
 obtain⟨z,its,n,r,e⟩:=I.hok l _ hH;exact⟨z,its,n,r,r.length,e⟩
theorem zME (h:n<=sizeLine):Builtin.List.listTooLong n=false:=decide_eq_false (by omega)
end
section
variable {X:Cx}
def zOi:V->List V->Hp->VK->Prop:=λx vs H Q=>∃ l xs y,x=.ref l/\vs=[y]/\H l=some (.lst xs)/\xs.length < sizeLine/\Q .non (upd H l (.lst (xs++[y])))
theorem zF4:MtM X "list.append" zOi:=by
 intro pins s B H x vs v us Q I rx rv h;obtain⟨l,xs,y,rfl,rfl,hH,hz,q⟩:=h;cases rx;obtain⟨u,rfl,ru⟩:=rv.one;obtain⟨z,its,n,r,hl,e⟩:=I.lstM hH;refine call_meets F.slot_list_append ⟨_,e,rfl⟩ F.entry_list_append (F.args_list_append_2 _ _) (PySem.list_append l its.toArray n u (by grind)) ⟨e,?_⟩;refine⟨.non,_,I.lset hH e (by simp) (r.append (.cons ru .nil)) ?_,rfl,q⟩;grind
def zOh:V->List V->Hp->VK->Prop:=λx vs H Q=>∃ l b xs zs,x=.ref l/\vs=[.ref b]/\H l=some (.lst xs)/\H b=some (.lst zs)/\xs.length+zs.length<=sizeLine/\Q .non (upd H l (.lst (xs++zs)))
theorem zJ2:MtM X "list.extend" zOh:=by
 intro pins s B H x vs v us Q I rx rv h;obtain⟨l,b,xs,zs,rfl,rfl,hH,hB,hz,q⟩:=h;cases rx;obtain⟨u,rfl,ru⟩:=rv.one;cases ru;obtain⟨z,its,n,r,hl,e⟩:=I.lstM hH;obtain⟨z2,its2,n2,r2,hl2,e2⟩:=I.lstM hB;have hsz:its.toArray.size+its2.toArray.size<=sizeLine:=by rw[xQ,xQ];omega
 have hlong:¬ (!its.toArray.isEmpty&&Builtin.List.listTooLong (its.toArray.size+its2.toArray.size))=true:=by
  rw[zME hsz,Bool.and_false];exact qY
 refine call_meets F.slot_list_extend ⟨_,e,rfl⟩ F.entry_list_extend (F.args_list_extend_2 _ _)
  (AutoSeq1.list_extend_list_list_0 l its.toArray n b its2.toArray n2 hlong (by omega) (by omega)) ⟨e,e2,?_⟩
 refine⟨.non,_,I.lset hH e (by simp) (r.append r2) ?_,rfl,q⟩
 simp_all
theorem zGx {T:Type}(xs:List T)(k:Nat):(List.replicate k xs).flatten.length=k*xs.length:=by simp
end
end L2
namespace Att
open PySem PySem.W PySem.Calls PyProof.Rows
theorem zDz :∀ (ns:List Int) (vs:List Value),WellAll P h vs (ns.map WData.int)->IntsAre vs ns:=by
 intro ns
 induction ns with
 | nil =>
  intro vs w;cases w;exact .nil
 | cons n ns ih =>
  intro vs w;cases w with
  | cons a b =>
   cases a;exact .cons _ _ (ih _ b)
theorem zID:∀ {ns:List Int},WData.weightAll (ns.map WData.int)<=2^20->∀ x∈ns,Builtin.Int.intBits x<=2^20
 | n::ns,h,x,hx=>by
  rw[map_cons,WData.weightAll,WData.weight] at h;rcases mem_cons.mp hx with rfl | hx
  .unfold Builtin.Int.intBits;omega
  .exact zID (by omega) x hx
theorem zJJ {l:OpenLaw}(hn:l.most=some n)
  (hpre:l.row.toRowW.claim.pre args=true) (hwl:WellAll P h vals args) (hlay:WData.layableAll args=true) :
  ∃ a vs ns,vals=[Value.ref a]/\args=[WData.list (ns.map WData.int)]/\h.get? a=some { cls:=.type "list",data:=.seq vs.toArray }/\IntsAre vs ns/\(ns.length<=n/\∀ x∈ns,Builtin.Int.intBits x<=2^20):=by
 have hc:=(pre_splitW hpre).2;obtain⟨d,r,rfl,h1,h2⟩:=hasAllW_cons ((pre_splitW hpre).1);obtain rfl:=hasAllW_nil h2;obtain⟨xs,rfl,h3⟩:=hasW_list h1;obtain⟨ns,rfl⟩:=items_int h3;have hlen:ns.length<=n:=by
  have h4:(WTm.not (.lt (.lit (.int (n:Int))) (.len (.arg 0)))).holds [] { args:=[.list (ns.map .int)] }=true:=by
   have h4:=(holds_andW hc).1;rw[hn] at h4;exact h4
  have h5:=condW_of h4 (w_not (w_lt w_lit (w_len_list (w_arg rfl))));grind
 cases hwl with
 | cons w1 w2 =>
  cases w2;cases w1 with
  | list ho hall=>exact⟨_,_,ns,rfl,rfl,ho,zDz ns _ hall,hlen,zID (of_decide_eq_true (Bool.and_eq_true_iff.mp (W.layW_cons hlay).1).2)⟩
theorem zJX (l:OpenLaw)(args:List WData):l.row.toRowW.claim.post args (.bool true) args=true :=
 postW_of
  rfl
  (w_eq_bool (w_res rfl) w_lit) rfl
theorem zHO {l:OpenLaw}
  (hn:l.most=some n) (hdf:d.params.defaults=[])
  (call:∀ (w:World) (s0 O3:Shared) (mg mb:Str->Option Value) (fa:Addr) (o:Obj) (pm cd doc:Value) (a:Addr) (vs:List Value) (ns:List Int),
   Ground q loose [] XP w s0 mg mb O3.heap->YP w O3.heap ->
   O3.heap.get? fa=some o->o.data=.func (docDef d.name d.params d.body d.scope pm cd doc)->O3.heap.CodeRec cd d.name->mg d.name=some (.ref fa) ->
   O3.heap.get? a=some { cls:=.type "list",data:=.seq vs.toArray }->IntsAre vs ns->(ns.length<=n/\∀ x∈ns,Builtin.Int.intBits x<=2^20)->O3.gens=#[] ->
   codeAny (model l.prog w) callerA (.call (.ref fa) ⟨[.ref a],[]⟩) (λr s'=>r=.ok (.ret (.bool true))/\OldK O3.heap s'.heap/\s'.os=O3.os/\AllBare s'.gens) O3) :
  WalkO q loose XP YP l.row.toRowW d [] (λf vs=>PySem.call f vs):=by
 intro w s0 O3 mg mb G Y fa o pm cd doc dV kV ho hd hcd hD hmg hg args vals as hpre hlay hrd hwl hlo;obtain rfl:=Dflts.none hD hdf;obtain rfl:kV=.none:=Dflts.noKw hD;obtain⟨a,vs,ns,rfl,rfl,hobj,hints,hlen⟩:=zJJ hn hpre hwl hlay;refine enter_call (codeAny_mono (call w s0 O3 mg mb fa o pm cd doc a vs ns G Y ho (fd_plain hd) hcd hmg hobj hints hlen hg) λr s' hq=>?_);obtain⟨rfl,h2,h3,h4⟩:=hq;exact⟨.inl ⟨.bool true,.bool true,[],rfl,λ_=>rfl,.bool true,zJX l _,λ_=>⟨List.Pairwise.nil,λ_ hm=>(nomatch hm)⟩⟩,h2,h3,h4⟩
section
variable {prog:Program}{w:World}{A:Around}{E:Value->Shared->Prop}{s:Shared}{K:Frag}
end
end Att
namespace L2
open PySem Spec PyProof.Rows
theorem zCu:∀ {vs:List Value} {ns:List Int},IntsAre vs ns->Vals (ns.map V.int) vs
 | _,_,.nil=>.nil
 | _,_,.cons n t h=>.cons ⟨t,rfl⟩ (zCu h)
def Only (H:Hp):Prop:=∀ b,H b=none\/∃ o xs,H b=some (.frz o (.lst xs))
noncomputable def tblT (tl:List (Str×Addr×Addr)):List (Addr×Str):=tl.map λt=>(t.2.2,lamQ t.1)
noncomputable def hpT (tl:List (Str×Addr×Addr))(H:Hp):Hp:=λb=>match (tblT tl).lookup b with
 | some q=>some (.tbl q)
 | none=>H b
theorem zF7 {M:Type}:∀ {l:List (Addr×M)} {a:Addr} {b:M},l.lookup a=some b->(a,b)∈l
 | [],_,_,e=>by cases e
 | (c,x)::r,a,b,e=>by
  rw[lookup_cons] at e;cases hb:a==c with
  | true=>rw[hb] at e;cases e;rw[eq_of_beq hb];exact .head _
  | false=>rw[hb] at e;exact .tail _ (zF7 e)
theorem zEh:∀ {tl:List (Str×Addr×Addr)} {x:Str} {c P:Addr},(tl.map λt=>t.2.2).Nodup->(x,c,P)∈tl->(tblT tl).lookup P=some (lamQ x)
 | t::tl,x,c,P,nd,h=>by
  rcases mem_cons.mp h with e | h
  .cases e;unfold tblT;rw[map_cons,lookup_cons,beq_self_eq_true]
  .have n:=(nodup_cons.mp (show ((t.2.2)::tl.map λt=>t.2.2).Nodup from nd));have ne:(P==t.2.2)=false:=by
    refine beq_eq_false_iff_ne.mpr λz=>n.1 ?_
    rw[<- z];exact mem_map.mpr ⟨_,h,rfl⟩
   unfold tblT;rw[map_cons,lookup_cons,ne];exact zEh n.2 h
theorem zMS {K:W.Frag}{tl:List (Str×Addr×Addr)}
  (KX:K.In O3.heap) (hns:O3.heap.Ns mainGlobals mg) (hb:O3.heap.Ns builtinsNs mb) (hbb:∀ x:Str,x ≠ "__name__"->mb x=bootBuiltins x) (hlim:O3.heap.NoLimit) (hsr:O3.heap.NoSeer) (htr:(model P w).prog.given.tree=none) (hg:O3.gens=#[])
  (ha:O3.heap.get? a=some { cls:=.type "list",data:=.seq vs.toArray }) (hi:IntsAre vs ns) (hl:ns.length<=sizeLine) (hr:Room k callerA)
  (F:∀ base:Heap,K.In base->base.Ns mainGlobals mg->FnOk P w K mg base CX k fa fd [x] sp) (hbind:∀ (s:Shared) (u:Value),BindsTo s fd ⟨[u],[]⟩ [(x,u)])
  (hbm:∃ bm ob,mg "__builtins__"=some (.ref bm)/\bm≠builtinsNs/\O3.heap.get? bm=some ob/\ob.cls=.type "module"/\ob.dict=some builtinsNs/\ob.data=.plain) (htab:∀ t∈tl,W.CodeHd O3.heap t.2.1 t.2.2/\O3.heap.get? t.2.2=some (W.tabObj #[])) (htl:∀ x∈zBg,tabQ K x=tl.lookup x) (hnd:(tl.map λt=>t.2.2).Nodup) (hnt:W.noTabs K=true)
  (hsp:∀ H:Hp,(∀ xs,H a≠some (.lst xs))->SqL K H a (ns.map V.int)->sp [.ref a] H (λv _=>v=.bl true) λ_ _ _=>False)
  (hCX:∀ H e s',CX [] H O3 (λ_ _ _=>False) e s'->False) :
  codeAny (model P w) callerA (.call (.ref fa) ⟨[.ref a],[]⟩) (λr s'=>r=.ok (.ret (.bool true))/\OldK O3.heap s'.heap/\s'.os=O3.os/\AllBare s'.gens) O3:=by
 have rv:=zCu hi;have lenV:=hi.length;have tat:∀ {b:Addr} {qq:Str},(tblT tl).lookup b=some qq->∃ c,W.CodeHd O3.heap c b/\O3.heap.get? b=some (W.tabObj #[]):=λ{b qq} e=>by
  obtain⟨t,mt,et⟩:=mem_map.mp (zF7 e);cases et;exact⟨t.2.1,htab t mt⟩
 have tna:(tblT tl).lookup a=none:=by
  cases e:(tblT tl).lookup a with
  | none=>rfl
  | some qq =>
   obtain⟨_,_,e2⟩:=tat e;rw[ha] at e2;cases e2
 have core:∀ H0:Hp,Only H0->SqL K H0 a (ns.map V.int)->HOk P w H0 O3.heap->(∀ b,H0 b≠none->b=a)->(H0 a≠none->K.lookup a=none) ->
   codeAny (model P w) callerA (.call (.ref fa) ⟨[.ref a],[]⟩) (λr s'=>r=.ok (.ret (.bool true))/\OldK O3.heap s'.heap/\s'.os=O3.os/\AllBare s'.gens) O3:=by
  intro H0 hO0 hS0 hok0 hA0 hK0;obtain⟨H,eH⟩:∃ H:Hp,H=hpT tl H0:=⟨_,rfl⟩;have Hat:∀ {b:Addr} {qq:Str},(tblT tl).lookup b=some qq->H b=some (.tbl qq):=λ{b qq} e=>by rw[eH];unfold hpT;rw[e]
  have Hout:∀ {b:Addr},(tblT tl).lookup b=none->H b=H0 b:=λ{b} e=>by rw[eH];unfold hpT;rw[e]
  have H0t:∀ {b:Addr} {u:HO},H0 b=some u->H b=some u:=λ{b u} e=>by
   have z:b=a:=hA0 b (by rw[e];simp);rw[Hout (by rw[z];exact tna)];exact e
  have hS:SqL K H a (ns.map V.int):=by
   rcases hS0 with (z | ⟨o,z⟩) | z
   .exact .inl (.inl (H0t z))
   .exact .inl (.inr ⟨o,H0t z⟩)
   .exact .inr z
  have hL:∀ xs,H a≠some (.lst xs):=λxs e=>by
   rw[Hout tna] at e;rcases hO0 a with z | ⟨o,ys,z⟩
   .rw [z] at e;cases e
   .rw [z] at e;cases e
  have hok:HOk P w H O3.heap:=λb u e=>by
   cases z:(tblT tl).lookup b with
   | some qq =>
    rw[Hat z] at e;cases e;obtain⟨_,_,e2⟩:=tat z;exact⟨#[],e2,trivial,λpos cv z=>by cases (show (none:Option Value)=some cv from z)⟩
   | none =>
    rw[Hout z] at e;exact(hok0 b u e).stay (λ_ _ _ q=>q) (λ_ q=>H0t q) (λ_ _ q=>H0t q) λ_ _ _ q _=>H0t q
  have hT:zIE K H:=λx hx c P e=>Hat (by
   have e2:=htl x hx;rw[e] at e2;exact zEh hnd (PySem.mem_of_lookup e2.symm))
  have split:∀ {b:Addr},H b≠none->((tblT tl).lookup b=none/\b=a/\H0 a≠none)\/∃ qq,(tblT tl).lookup b=some qq:=λ{b} e=>by
   cases z:(tblT tl).lookup b with
   | some qq=>exact .inr ⟨qq,rfl⟩
   | none =>
    rw[Hout z] at e;have:=hA0 b e;exact .inl ⟨rfl,this,by rw[<- this];exact e⟩
  have base_of:∀ {b:Addr} {o:Obj},O3.heap.get? b=some o->H b=none->(hidT O3.heap H).get? b=some o:=λe n=>zMa e n
  have noA:∀ {b:Addr} {o:Obj} {es:Array DictEntry} {ep:Nat},O3.heap.get? b=some o->o.data=.dict es ep->H b=none:=λ{b o es ep} e d=>by
   cases q:H b with
   | none=>rfl
   | some u =>
    rcases split (b:=b) (by rw[q];simp) with ⟨_,e',_⟩ | ⟨qq,z⟩
    .subst e';rw[ha] at e;cases e;have d':Data.seq vs.toArray _=Data.dict es ep:=d;cases d'
    .obtain ⟨_,_,e2⟩:=tat z;rw[e2] at e;cases e;cases (show Data.fields #[]=Data.dict es ep from d)
  have noM:∀ {b:Addr} {o:Obj},O3.heap.get? b=some o->o.cls=.type "module"->H b=none:=λ{b o} e d=>by
   cases q:H b with
   | none=>rfl
   | some u =>
    rcases split (b:=b) (by rw[q];simp) with ⟨_,e',_⟩ | ⟨qq,z⟩
    .subst e';rw[ha] at e;cases e;exact absurd (show Value.type "list"=Value.type "module" from d) (by decide)
    .obtain ⟨_,_,e2⟩:=tat z;rw[e2] at e;cases e;exact absurd (show Value.none=Value.type "module" from d) (by decide)
  have nsK:∀ {b:Addr} {m:Str->Option Value},O3.heap.Ns b m->(hidT O3.heap H).Ns b m:=λ{b m} ⟨o,es,ep,e,d,r⟩=>⟨o,es,ep,base_of e (noA e d),d,r⟩
  have hKb:K.In (hidT O3.heap H):=λb o e=>base_of (KX b o e) (by
   cases q:H b with
   | none=>rfl
   | some u =>
    rcases split (b:=b) (by rw[q];simp) with ⟨_,e',n0⟩ | ⟨qq,z⟩
    .subst e';rw[hK0 n0] at e;cases e
    .obtain ⟨_,_,e2⟩:=tat z;have e3:=KX b o e;rw[e2] at e3;cases e3;have h2:=all_eq_true.mp hnt (b,W.tabObj #[]) (W.mem_of_lookupK e);exact absurd (show false=true from h2) qY)
  have hM:Mod K mg (hidT O3.heap H):=⟨hKb,nsK hns,⟨mb,nsK hb,hbb⟩,let ⟨mc,h1,h2⟩:=hlim;⟨mc,nsK h1,h2⟩,⟨let ⟨mc,h1,h2⟩:=hsr.statics;⟨mc,nsK h1,h2⟩,let ⟨mc,h1,h2⟩:=hsr.mods;⟨mc,nsK h1,h2⟩,let ⟨mc,h1,h2⟩:=hsr.imp;⟨mc,nsK h1,h2⟩,let ⟨mc,bm,ob,h1,h2,h3,h4,h5⟩:=hsr.main;⟨mc,bm,ob,nsK h1,h2,base_of h3 (noM h3 h4),h4,h5⟩⟩,let ⟨bm,ob,b1,b2,b3,b4,b5⟩:=hbm;⟨bm,ob,b1,b2,base_of b3 (noM b3 b4),b4,b5⟩,λx hx c P e=>by
   have e2:=htl x hx;rw[e] at e2;obtain⟨o,vs',file,tf,flags,tg,inF,text,tt,g1,g2,g3,g4,g5,g6,g7,g8,g9,g10⟩:=(htab (x,c,P) (PySem.mem_of_lookup e2.symm)).1;refine⟨o,vs',file,tf,flags,tg,inF,text,tt,base_of g1 ?_,g2,g3,g4,g5,g6,g7,g8,g9,g10⟩;cases q:H c with
   | none=>rfl
   | some u =>
    rcases split (b:=c) (by rw[q];simp) with ⟨_,e',_⟩ | ⟨qq,z⟩
    .subst e';rw[ha] at g1;cases g1;exact absurd (show Value.type "list"=Value.type "code" from g2) (by decide)
    .obtain ⟨_,_,e2⟩:=tat z;rw[e2] at g1;cases g1;exact absurd (show Value.none=Value.type "code" from g2) (by decide)⟩
  have e0:Env0 P w K mg (hidT O3.heap H) callerA [] O3 H:=⟨rfl,hM,λb o e=>zOy e,Nat.le_of_eq (zKL _ _),trivial,λb hb=>absurd (show b∈([]:List Addr) from hb) (by simp),hok,.of_eq hg,htr,hT⟩;refine codeAny_mono ((F _ hKb (nsK hns)).run callerA [] O3 H ⟨[.ref a],[]⟩ [.ref a] [.ref a] _ _ hr e0 (hbind O3 (.ref a)) (.cons rfl .nil) (hsp H hL hS)) λr s' h=>?_
  cases r with
  | error e=>exact(hCX H e s' h).elim
  | ok fl =>
   cases fl with
   | next=>exact False.elim h
   | brk=>exact False.elim h
   | cont=>exact False.elim h
   | ret u =>
    obtain⟨v,H',os,bare,un,hok',r',q⟩:=h;have q':v=.bl true:=q;subst q';obtain rfl:u=Value.bool true:=r';have key:∀ b o,O3.heap.get? b=some o->asItWas O3.heap s'.heap b o/\∃ o',s'.heap.get? b=some o':=λb o e=>by
     cases z:(tblT tl).lookup b with
     | some qq =>
      obtain⟨c,C,e2⟩:=tat z;rw[e] at e2;cases e2;obtain⟨ps,e3,_⟩:=hok' b _ (un.tbls b _ (Hat z));exact⟨.inr (.inl ⟨(C.tab e).isCodeTable,rfl,#[],ps,rfl,by rw[e3];simp⟩),_,e3⟩
     | none =>
      have k:s'.heap.get? b=some o:=by
       cases q:H b with
       | none=>exact un.keep b o e q (by intro z;exact absurd (show b∈([]:List Addr) from z) (by simp)) (by simp)
       | some u =>
        rcases hO0 b with y | ⟨ob,xs,y⟩
        .rw [Hout z,y] at q;cases q
        .have y1:=H0t y;have z2:=un.frzs b ob _ y1;obtain⟨e1,_⟩:=hok b _ y1;obtain⟨e2,_⟩:=hok' b _ z2;rw[e] at e1;cases e1;exact e2
      exact⟨.inl k,o,k⟩
    exact⟨rfl,⟨λb o e=>(key b o e).1,λb o e=>(key b o e).2⟩,os,bare⟩
 cases hk:K.lookup a with
 | some o =>
  have e:=KX a o hk;rw[ha] at e;cases e;refine core (λ_=>none) (λ_=>.inl rfl) (.inr ⟨_,vs.toArray,_,hk,rfl,rfl,rfl,by rw[xQ,lenV];exact hl,by simpa using rv⟩) (λb u z=>by have z':(none:Option HO)=some u:=z;cases z') (λb z=>absurd rfl z) λz=>absurd rfl z
 | none =>
  refine core (λb=>if b=a then some (.frz { cls:=.type "list",data:=.seq vs.toArray } (.lst (ns.map V.int))) else none) (λb=>?_) (.inl (.inr ⟨{ cls:=.type "list",data:=.seq vs.toArray },if_pos rfl⟩)) (λb u z=>?_) (λb z=>?_) λ_=>hk
  .by_cases hb:b=a
   .exact .inr ⟨_,_,if_pos hb⟩
   .exact .inl (if_neg hb)
  .by_cases hb:b=a
   .have z':=(if_pos hb).symm.trans z;cases z';subst hb;exact⟨ha,by rw[qy];exact hl,vs,_,rv,ha⟩
   .have z':=(if_neg hb).symm.trans z;cases z'
  .by_cases hb:b=a
   .exact hb
   .exact absurd (if_neg hb) z
end L2
namespace L2
open PySem Spec PyProof.Rows
theorem zOT {l:W.OpenLaw}{K:Params->W.Frag}{CX:World->CXT}{sp:World->Sp}
  (hn:l.most=some n) (hn2:n<=sizeLine) (hdf:d.params.defaults=[]) (hq:importsNone q=true) (ht:∀ w,(model l.prog w).prog.given.tree=none) (hr:Room k callerA) (tl:List (Str×Addr×Addr)) (hrec:∀ (w:World) (h:Heap),YP w h->∀ t∈tl,W.CodeHd h t.2.1 t.2.2/\h.get? t.2.2=some (W.tabObj #[])) (htl:∀ w:World,∀ x∈zBg,tabQ (K w.params) x=tl.lookup x) (htk:∀ t∈tl,t.1∈zBg/\tl.lookup t.1=some t.2) (hnd:(tl.map λt=>t.2.2).Nodup) (hnt:∀ w:World,W.noTabs (K w.params)=true)
  (hY:∀ (w:World) (h:Heap),YP w h->(K w.params).In h)
  (F:∀ (w:World) (mg:Str->Option Value) (fa:Addr) (h:Heap),(K w.params).In h->h.Ns mainGlobals mg->mg d.name=some (.ref fa) ->
   ∃ fd:FuncData,(∀ (s:Shared) (u:Value),BindsTo s fd ⟨[u],[]⟩ [(x,u)]) /\
    ∀ base:Heap,(K w.params).In base->base.Ns mainGlobals mg->FnOk l.prog w (K w.params) mg base (CX w) k fa fd [x] (sp w))
  (hsp:∀ (w:World) (H:Hp) (a:Addr) (ns:List Int),(ns.length<=n/\∀ x∈ns,Builtin.Int.intBits x<=2^20)->(∀ xs,H a≠some (.lst xs))->SqL (K w.params) H a (ns.map V.int)->sp w [.ref a] H (λv _=>v=.bl true) λ_ _ _=>False)
  (hCX:∀ (w:World) (H:Hp) (s:Shared) (e:Value) (s':Shared),CX w [] H s (λ_ _ _=>False) e s'->False) :
  W.WalkO q loose XP YP l.row.toRowW d [] (λf vs=>PySem.call f vs):=by
 refine Att.zHO hn hdf λw s0 O3 mg mb fa o pm cd doc a vs ns G Y ho hd hcd hmg hobj hints hlen hg=>?_
 have KX:=hY w _ Y;obtain⟨fd,hb,hF⟩:=F w mg fa _ KX G.T.g hmg;exact zMS KX G.T.g G.T.b G.T.builtins G.T.nolimit (G.T.seer hq) (ht w) hg hobj hints (le_trans hlen.1 hn2) hr hF hb G.T.bmain (hrec w _ Y) (htl w) hnd (hnt w) (λH hL hS=>hsp w H a ns hlen hL hS) λH e s'=>hCX w H O3 e s'
noncomputable def zAC (s:Stmt)(j:Nat):Stmt:=match s with
 | .ClassDef _ _ _ body _ _ _ _ _ _ _=>body.getD j (.Pass ⟨0,0,0,0⟩)
 | _=>.Pass ⟨0,0,0,0⟩
noncomputable def zAZ (s:Stmt):Arguments:=match s with
 | .FunctionDef _ a _ _ _ _ _ _ _ _=>a
 | _=>{ posonlyargs:=[],args:=[],vararg:=none,kwonlyargs:=[],kw_defaults:=[],kwarg:=none,defaults:=[] }
noncomputable def zAE (s:Stmt):List Stmt:=match s with
 | .FunctionDef _ _ b _ _ _ _ _ _ _=>b
 | _=>[]
noncomputable def zAA (s:Stmt):Scope:=match s with
 | .FunctionDef _ _ _ _ _ _ sc _ _ _=>sc
 | _=>{ kind:=.function,names:=[],isGenerator:=false,isCoroutine:=false }
abbrev CX0:CXT:=λ_ _ _ _ _ _=>False
abbrev E0:XK:=λ_ _ _=>False
theorem zGp :zE0 CX0 X E0:=λ_ _ _ _ _ _ _ h=>h.elim
structure Fun (K:W.Frag)(x qual:Str)(st:Stmt)(f:Addr)(fd:FuncData):Prop where
 ex:∃ (oc:Value) (od:Option Addr) (kV doc pm:Value) (an:Option Addr) (cdv ct:Value) (osl:Array (Option Value)),
  fd=W.fnOf x qual (zAZ st) (zAE st) (zAA st) .none kV doc pm an cdv ct/\K.lookup f=some ⟨oc,od,.func fd,osl⟩/\W.codeIn K cdv qual=true
 kp:W.keepIn K (.ref f)=true
section
variable {P:Program}{w:World}{K:W.Frag}{mg:Str->Option Value}{base:Heap}
theorem Fun.ok {st:Stmt}(F:Fun K x qual st f fd)(S:zAX N ps (zAA st))(len:∀ vs H Q E,sp vs H Q E->vs.length=ps.length)
  (hbody:∀ (cdv:Value) (A:Around) (outer:List Env) (s:Shared) (H:Hp) (vs:List V) (Q:VK) (E:XK),Room k (A.deeper (envOfC qual (zAA st) s.heap.objs.size f cdv))->sp vs H Q E ->
   ∃ t,PSs (cxOf CX0 P w K mg base N qual (zAA st) f cdv A outer s H E).nox (zAE st) t/\t { nx:=λ_ H'=>Q .non H',rt:=Q } (zBt N vs) H):FnOk P w K mg base CX0 (k+1) f fd ps sp:=by
 obtain⟨oc,od,kV,doc,pm,an,cdv,ct,osl,rfl,lk,hcd⟩:=F.ex;refine zSi lk hcd S len λA outer s H vs Q E hr hsp=>?_
 obtain⟨t,h,q⟩:=hbody cdv A outer s H vs Q E hr hsp;exact⟨t,h.nox,q⟩
theorem Fun.binds {st:Stmt}(F:Fun K x qual st f fd)
  (h:∀ (kV doc pm:Value) (an:Option Addr) (cdv ct:Value) (us:List Value),us.length=ps.length->bindArgs (W.fnOf x qual (zAZ st) (zAE st) (zAA st) .none kV doc pm an cdv ct) ⟨us,[]⟩=pure (ps.zip us)):zBA K fd ps []:=by
 obtain⟨oc,od,kV,doc,pm,an,cdv,ct,osl,rfl,lk,hcd⟩:=F.ex;exact .all (h kV doc pm an cdv ct)
theorem zKc {st:Stmt}{kV:Value}(l:K.lookup f=some ⟨oc,od,.func (W.fnOf x qual (zAZ st) (zAE st) (zAA st) .none kV doc pm an cdv ct),osl⟩)
  (c:W.codeIn K cdv qual=true) (k:W.keepIn K (.ref f)=true):Fun K x qual st f (W.fnOf x qual (zAZ st) (zAE st) (zAA st) .none kV doc pm an cdv ct):=⟨⟨oc,od,kV,doc,pm,an,cdv,ct,osl,rfl,l,c⟩,k⟩
end
theorem zJE (h:n<=1000):n < sizeLine:=Nat.lt_of_le_of_lt h (by decide)
theorem iteF {B:Prop}(h:B):if false=true then A else B:=by grind
theorem iteT {B:Prop}(h:A):if true=true then A else B:=by simp_all
def Same (H H':Hp):Prop:=∀ b o,H b=some o->H' b=some o
theorem Same.refl (H:Hp):Same H H:=λ_ _ h=>h
theorem Same.trans (a:Same H H1)(b:Same H1 H2):Same H H2:=λc o h=>b c o (a c o h)
theorem Same.free (e:Same H H')(h:H' l=Option.none):H l=Option.none:=by
 cases q:H l with
 | none=>rfl
 | some o =>
  rw[e l o q] at h;omega
theorem Same.seq {K:W.Frag}(e:Same H H')(h:SqL K H a xs):SqL K H' a xs:=by
 rcases h with (h | ⟨o,h⟩) | h
 .exact .inl (.inl (e _ _ h))
 .exact .inl (.inr ⟨o,e _ _ h⟩)
 .exact .inr h
end L2
end
section
namespace DL
theorem nof {p:Prop}(h:false=true):p:=nomatch h
open PySem Spec PyProof.Rows L2
abbrev St:=L2.St
abbrev anyU:HO:=.ext λ_=>True
structure LamI where
 qual:Str
 params:Arguments
 body:Expr
 scope:Scope
noncomputable def frN (L:LamI):List Str:=((L.scope.names.filter λp=>p.2==.free).map (·.1)).reverse
def zBG (H:Hp):List (Str×Addr)->List V->Prop:=Paired λp v=>∃ o u,H p.2=some (.frz o anyU)/\o.data=.cell (some u)/\RelV v u
def zDb (H:Hp)(L:LamI)(f:Addr)(vs:List V):Prop:=∃ cl pm c ctv oc u1,H f=some (.frz (W.kla_obj "<lambda>" L.qual L.params L.body L.scope cl pm c ctv) anyU)/\H c=some (.frz oc u1)/\zLl oc L.qual/\cl.map (·.1)=frN L/\(cl.map (·.2)).Nodup/\zBG H cl vs
noncomputable def zFT:List Str:=["shape","ink","strength","layer","layers"]
noncomputable def zLD (ns:List Str):Bool:=(ns.any λn=>n==("strength":Str)||n==("layer":Str))&&ns.all λn=>zFT.contains n
noncomputable def zD7 (fs:List (Str×V)):Bool:=zLD (fs.map (·.1))
abbrev zCL (H H':Hp):Prop:=∀ b o,H b=some o->(∀ C dx fs,o=.ins C dx fs->zD7 fs=true)->H' b=some o
theorem zBG.monoF (e:zCL H H')(h:zBG H cl vs):zBG H' cl vs:=Paired.mapP h λ_ _ zy133=>by obtain⟨o,u,h1,h2⟩:=zy133;exact⟨o,u,e _ _ h1 (λ_ _ _ z=>nomatch z),h2⟩
theorem zDb.monoF (e:zCL H H')(h:zDb H L f vs):zDb H' L f vs:=by
 obtain⟨cl,pm,c,ctv,oc,u1,h1,h2,h3,h4,h5,h6⟩:=h;exact⟨cl,pm,c,ctv,oc,u1,e _ _ h1 (λ_ _ _ z=>nomatch z),e _ _ h2 (λ_ _ _ z=>nomatch z),h3,h4,h5,h6.monoF e⟩
theorem zDb.mono (e:Same H H')(h:zDb H L f vs):zDb H' L f vs:=h.monoF λb o q _=>e b o q
inductive D where
 | non | bl (b:Bool) | int (i:Int) | str (x:Str) | tup (l:List D) | lst (l:List D) | exc (c:Str) | dct (ks:List (Int×Int)) | lam (j:Nat) (L:LamI) (l:List D) | obj (c:Str) (ns:List Str) (l:List D) | fn (n:Nat) (x:Str)
noncomputable instance:Inhabited D:=⟨.non⟩
def zB6 (K:W.Frag)(c:Str)(C:Addr):Prop:=W.nsIn K mainGlobals c=some (some (.ref C))
def zLi (K:W.Frag)(H:Hp)(c:Str)(ns:List Str)(a:Addr)(vs:List V):Prop:=∃ C dx gs,H a=some (.ins C dx gs)/\zD7 gs=true/\zB6 K c C/\(ns.map λn=>gs.lookup n)=vs.map some
theorem zLi.monoF {K:W.Frag}(e:zCL H H')(h:zLi K H c ns a vs):zLi K H' c ns a vs :=
 let ⟨C,dx,gs,h1,h2,h3⟩:=h;⟨C,dx,gs,e _ _ h1 λ_ _ _ z=>by cases z;exact h2,h2,h3⟩
noncomputable def pk (p:Int×Int):List Key:=[Sum.inl p.1,Sum.inl p.2]
mutual
noncomputable def Den (K:W.Frag)(H:Hp):D->V->Prop
 | .non,v=>v=.non
 | .bl b,v=>v=.bl b
 | .int i,v=>v=.int i
 | .str x,v=>v=.str x
 | .tup ds,v=>∃ a vs,v=.ref a/\SqT K H a vs/\DenL K H ds vs
 | .lst ds,v=>∃ a vs,v=.ref a/\SqL K H a vs/\DenL K H ds vs
 | .exc c,v=>∃ a o u C,v=.ref a/\H a=some (.frz o u)/\o.cls=.ref C/\(∃ vs,o.data=.fields vs)/\zB6 K c C
 | .dct ks,v=>∃ a kvs,v=.ref a/\H a=some (.dT kvs)/\kvs.map (·.1)=ks.map pk
 | .lam _ L ds,v=>∃ a vs,v=.ref a/\zDb H L a vs/\DenL K H ds vs
 | .obj c ns ds,v=>∃ a vs,v=.ref a/\zLi K H c ns a vs/\DenL K H ds vs
 | .fn _ x,v=>∃ a,v=.ref a/\zB6 K x a
noncomputable def DenL (K:W.Frag)(H:Hp):List D->List V->Prop
 | [],vs=>vs=[]
 | d::ds,vs=>∃ v ws,vs=v::ws/\Den K H d v/\DenL K H ds ws
end
theorem Same.tupS {K:W.Frag}(e:Same H H')(h:SqT K H a xs):SqT K H' a xs:=by
 rcases h with (h | ⟨o,h⟩) | h
 .exact .inl (.inl (e _ _ h))
 .exact .inl (.inr ⟨o,e _ _ h⟩)
 .exact .inr h
theorem zCL.tupS {K:W.Frag}(e:zCL H H')(h:SqT K H a xs):SqT K H' a xs:=by
 rcases h with (h | ⟨o,h⟩) | h
 .exact .inl (.inl (e _ _ h λ_ _ _ z=>nomatch z))
 .exact .inl (.inr ⟨o,e _ _ h λ_ _ _ z=>nomatch z⟩)
 .exact .inr h
theorem zCL.seq {K:W.Frag}(e:zCL H H')(h:SqL K H a xs):SqL K H' a xs:=by
 rcases h with (h | ⟨o,h⟩) | h
 .exact .inl (.inl (e _ _ h λ_ _ _ z=>nomatch z))
 .exact .inl (.inr ⟨o,e _ _ h λ_ _ _ z=>nomatch z⟩)
 .exact .inr h
section
variable {K:W.Frag}{H H':Hp}
mutual
theorem Den.monoF (e:zCL H H'):∀ {d:D} {v:V},Den K H d v->Den K H' d v
 | .non,_,h=>by rw[Den] at h ⊢;exact h
 | .bl _,_,h=>by rw[Den] at h ⊢;exact h
 | .int _,_,h=>by rw[Den] at h ⊢;exact h
 | .str _,_,h=>by rw[Den] at h ⊢;exact h
 | .tup ds,_,h=>by
  rw[Den] at h ⊢;obtain⟨a,vs,h1,h2,h3⟩:=h;exact⟨a,vs,h1,zCL.tupS e h2,DenL.monoF e h3⟩
 | .lst ds,_,h=>by
  rw[Den] at h ⊢;obtain⟨a,vs,h1,h2,h3⟩:=h;exact⟨a,vs,h1,zCL.seq e h2,DenL.monoF e h3⟩
 | .exc c,_,h=>by
  rw[Den] at h ⊢;obtain⟨a,o,u,C,h1,h2,h3⟩:=h;exact⟨a,o,u,C,h1,e _ _ h2 (λ_ _ _ z=>nomatch z),h3⟩
 | .dct ks,_,h=>by
  rw[Den] at h ⊢;obtain⟨a,kvs,h1,h2,h3⟩:=h;exact⟨a,kvs,h1,e _ _ h2 (λ_ _ _ z=>nomatch z),h3⟩
 | .lam _ L ds,_,h=>by
  rw[Den] at h ⊢;obtain⟨a,vs,h1,h2,h3⟩:=h;exact⟨a,vs,h1,h2.monoF e,DenL.monoF e h3⟩
 | .obj c ns ds,_,h=>by
  rw[Den] at h ⊢;obtain⟨a,vs,h1,h2,h3⟩:=h;exact⟨a,vs,h1,h2.monoF e,DenL.monoF e h3⟩
 | .fn _ x,_,h=>by rw[Den] at h ⊢;exact h
theorem DenL.monoF (e:zCL H H'):∀ {ds:List D} {vs:List V},DenL K H ds vs->DenL K H' ds vs
 | [],_,h=>by rw[DenL] at h ⊢;exact h
 | d::ds,_,h=>by
  rw[DenL] at h ⊢;obtain⟨v,ws,h1,h2,h3⟩:=h;exact⟨v,ws,h1,Den.monoF e h2,DenL.monoF e h3⟩
end
theorem Den.mono (e:Same H H')(h:Den K H d v):Den K H' d v:=h.monoF λb o q _=>e b o q
theorem DenL.mono (e:Same H H')(h:DenL K H ds vs):DenL K H' ds vs:=h.monoF λb o q _=>e b o q
theorem DenL.nil:DenL K H [] []:=rfl
theorem DenL.cons (h:Den K H d v)(t:DenL K H ds vs):DenL K H (d::ds) (v::vs):=⟨v,vs,rfl,h,t⟩
theorem DenL.length:∀ {ds:List D} {vs:List V},DenL K H ds vs->ds.length=vs.length
 | [],_,h=>by rw[DenL] at h;rw[h];rfl
 | _::ds,_,h=>by
  rw[DenL] at h;obtain⟨v,ws,h1,h2,h3⟩:=h;rw[h1,xJ,xJ,DenL.length h3]
theorem DenL.get:∀ {ds:List D} {vs:List V} {i:Nat} {d:D},DenL K H ds vs->ds[i]?=some d->∃ v,vs[i]?=some v/\Den K H d v
 | [],_,_,_,_,e=>by simp at e
 | x::ds,_,i,d,h,e=>by
  rw[DenL] at h;obtain⟨v,ws,h1,h2,h3⟩:=h;subst h1;cases i with
  | zero=>simp at e;subst e;exact⟨v,by simp,h2⟩
  | succ i =>
   obtain⟨u,q1,q2⟩:=DenL.get (i:=i) (d:=d) h3 (by simpa using e);exact⟨u,by simpa using q1,q2⟩
theorem DenL.of_get:∀ {ds:List D} {vs:List V},ds.length=vs.length->(∀ (i:Nat) d v,ds[i]?=some d->vs[i]?=some v->Den K H d v)->DenL K H ds vs
 | [],[],_,_=>.nil
 | [],_::_,e,_=>by simp at e
 | _::_,[],e,_=>by simp at e
 | d::ds,v::vs,e,h=>.cons (h 0 d v (by simp) (by simp)) (DenL.of_get (by simpa using e) λi d' v' q1 q2=>h (i+1) d' v' (by simpa using q1) (by simpa using q2))
theorem DenL.append:∀ {ds es:List D} {vs ws:List V},DenL K H ds vs->DenL K H es ws->DenL K H (ds++es) (vs++ws)
 | [],_,_,_,h,t=>by rw[DenL] at h;subst h;exact t
 | _::ds,_,_,_,h,t=>by
  rw[DenL] at h;obtain⟨v,ws,h1,h2,h3⟩:=h;subst h1;exact .cons h2 (DenL.append h3 t)
theorem DenL.take:∀ {ds:List D} {vs:List V} (n:Nat),DenL K H ds vs->DenL K H (ds.take n) (vs.take n)
 | _,_,0,_=>by rw[List.take_zero,List.take_zero];exact .nil
 | [],_,n+1,h=>by rw[DenL] at h;subst h;exact .nil
 | _::ds,_,n+1,h=>by
  rw[DenL] at h;obtain⟨v,ws,h1,h2,h3⟩:=h;subst h1;rw[List.take_succ_cons,List.take_succ_cons];exact .cons h2 (DenL.take n h3)
theorem DenL.drop:∀ {ds:List D} {vs:List V} (n:Nat),DenL K H ds vs->DenL K H (ds.drop n) (vs.drop n)
 | _,_,0,h=>h
 | [],_,n+1,h=>by rw[DenL] at h;subst h;exact .nil
 | _::ds,_,n+1,h=>by
  rw[DenL] at h;obtain⟨v,ws,h1,h2,h3⟩:=h;subst h1;rw[List.drop_succ_cons,List.drop_succ_cons];exact DenL.drop n h3
theorem DenL.set (hd:Den K H d v):∀ {ds:List D} {vs:List V} (n:Nat),DenL K H ds vs->DenL K H (ds.set n d) (vs.set n v)
 | [],_,n,h=>by rw[DenL] at h;subst h;exact .nil
 | _::ds,_,n,h=>by
  rw[DenL] at h;obtain⟨u,ws,h1,h2,h3⟩:=h;subst h1;cases n with
  | zero=>exact .cons hd h3
  | succ n=>exact .cons h2 (DenL.set hd n h3)
theorem DenL.ints:∀ ns:List Int,DenL K H (ns.map D.int) (ns.map V.int)
 | []=>.nil
 | n::ns=>.cons (by rw[Den]) (DenL.ints ns)
end
noncomputable def hide (H:Hp)(S:List Addr):Hp:=λb=>if b∈S then none else H b
section
variable {H H':Hp}{S:List Addr}{a b:Addr}{o:HO}
theorem zBz (h:b∈S):hide H S b=none:=if_pos h
theorem zAL (h:b∉S):hide H S b=H b:=if_neg h
theorem zAs (h:hide H S b=some o):b∉S/\H b=some o:=by
 unfold hide at h;grind
theorem zAa:Same (hide H S) H:=λ_ _ h=>(zAs h).2
theorem zAM (e:Same H H'):Same (hide H S) (hide H' S):=λb o h=>by
 obtain⟨h1,h2⟩:=zAs h;rw[zAL h1];exact e _ _ h2
theorem zBn (h:∀ b∈S,b∈T):Same (hide H T) (hide H S):=λb o q=>by
 obtain⟨h1,h2⟩:=zAs q;rw[zAL λz=>h1 (h b z)];exact h2
theorem zDf (e:Same H H')(n:H a=none):Same (hide H S) (hide H' (a::S)):=λb o q=>by
 obtain⟨h1,h2⟩:=zAs q;rw[zAL λz=>(mem_cons.mp z).elim (zAg h2 n) h1];exact e _ _ h2
theorem zBy:hide H []=H:=rfl
theorem zFW (h:a∈S):hide (upd H a o) S=hide H S:=by
 funext b;by_cases q:b∈S
 .rw [zBz q,zBz q]
 .rw [zAL q,zAL q,zAN λz=>q (by rw[z];exact h)]
theorem zAQ (h:H p=none)(o:HO):Same H (upd H p o):=λb u q=>by rw[zAN (zAg q h)];exact q
end
inductive Kd where
 | cl | fr | dt
 deriving DecidableEq
abbrev R:=D×Kd
abbrev Dst:=List (Option (D×Bool))
def RV (K:W.Frag)(H H':Hp)(S:List Addr):R->V->Prop
 | (d,.cl),v=>Den K (hide H' S) d v
 | (d,.fr),v=>∃ a vs ds,v=.ref a/\d=.lst ds/\a∉S/\H a=none/\H' a=some (.lst vs)/\DenL K (hide H' (a::S)) ds vs
 | (d,.dt),v=>∃ a vs ds,v=.ref a/\d=.lst ds/\SqL K H' a vs/\DenL K (hide H' S) ds vs
def Rdv (K:W.Frag)(H:Hp)(S:List Addr)(d:D)(v:V):Prop :=
 Den K (hide H S) d v\/∃ a vs ds,v=.ref a/\d=.lst ds/\SqL K H a vs/\DenL K (hide H S) ds vs
section
variable {K:W.Frag}{H H1 H':Hp}{S:List Addr}{d:D}{v:V}{r:R}
theorem RV.clean (h:RV K H H' S (d,.fr) v):Den K (hide H' S) d v:=by
 obtain⟨a,vs,ds,rfl,rfl,na,_,ha,t⟩:=h;exact⟨a,vs,rfl,SqL.of (by rw[zAL na];exact ha),t.mono (zBn λb z=>qJ _ z)⟩
theorem RV.den (h:RV K H H' S (d,k) v)(hk:k≠.dt):Den K (hide H' S) d v:=by
 cases k with
 | cl=>exact h
 | fr=>exact h.clean
 | dt=>exact absurd rfl hk
theorem RV.rd (h:RV K H H' S r v):Rdv K H' S r.1 v:=by
 obtain⟨d,k⟩:=r;cases k with
 | cl=>exact .inl h
 | fr=>exact .inl h.clean
 | dt=>exact .inr h
theorem RV.from (e:Same H H1)(h:RV K H1 H' S r v):RV K H H' S r v:=by
 obtain⟨d,k⟩:=r;cases k with
 | cl=>exact h
 | fr =>
  obtain⟨a,vs,ds,e1,e2,e3,e4,e5⟩:=h;exact⟨a,vs,ds,e1,e2,e3,e.free e4,e5⟩
 | dt=>exact h
theorem Rdv.mono (e:Same H H')(h:Rdv K H S d v):Rdv K H' S d v:=by
 rcases h with h | ⟨a,vs,ds,h1,h2,h3,h4⟩
 .exact .inl (h.mono (zAM e))
 .exact .inr ⟨a,vs,ds,h1,h2,e.seq h3,h4.mono (zAM e)⟩
theorem Rdv.int (h:Rdv K H S (.int i) v):v=.int i:=by
 rcases h with h | _
 .exact h
 .grind
theorem Rdv.bl (h:Rdv K H S (.bl b) v):v=.bl b:=by
 rcases h with h | _
 .exact h
 .grind
theorem Rdv.str (h:Rdv K H S (.str x) v):v=.str x:=by
 rcases h with h | _
 .exact h
 .grind
theorem Rdv.lst (h:Rdv K H S (.lst ds) v):∃ a vs,v=.ref a/\SqL K H a vs/\DenL K (hide H S) ds vs:=by
 rcases h with h | ⟨a,vs,ds',h1,h2,h3,h4⟩
 .rw [Den] at h;obtain⟨a,vs,h1,h2,h3⟩:=h;exact⟨a,vs,h1,zAa.seq h2,h3⟩
 .cases h2;exact⟨a,vs,h1,h3,h4⟩
theorem Rdv.tup (h:Rdv K H S (.tup ds) v):∃ a vs,v=.ref a/\SqT K H a vs/\DenL K (hide H S) ds vs:=by
 rcases h with h | ⟨a,vs,ds',h1,h2,h3,h4⟩
 .rw [Den] at h;obtain⟨a,vs,h1,h2,h3⟩:=h;exact⟨a,vs,h1,Same.tupS zAa h2,h3⟩
 .cases h2
theorem Rdv.dct (h:Rdv K H S (.dct ks) v):∃ a kvs,v=.ref a/\H a=some (.dT kvs)/\kvs.map (·.1)=ks.map pk:=by
 rcases h with h | ⟨a,vs,ds',h1,h2,h3,h4⟩
 .rw [Den] at h;obtain⟨a,kvs,h1,h2,h3⟩:=h;exact⟨a,kvs,h1,zAa _ _ h2,h3⟩
 .cases h2
theorem RV.int (i:Int):RV K H H' S (.int i,.cl) (.int i):=rfl
theorem RV.bl (b:Bool):RV K H H' S (.bl b,.cl) (.bl b):=rfl
end
def MuB:HO->Prop
 | .lst _=>True
 | .dT _=>True
 | _=>False
def OwnO (K:W.Frag)(H:Hp):D->HO->Prop
 | .lst ds,o=>∃ vs,o=.lst vs/\DenL K H ds vs
 | .dct ks,o=>∃ kvs,o=.dT kvs/\kvs.map (·.1)=ks.map pk
 | _,_=>False
theorem OwnO.mono {K:W.Frag}(e:Same H H')(h:OwnO K H d o):OwnO K H' d o:=by
 cases d with
 | lst ds=>obtain⟨vs,h1,h2⟩:=h;exact⟨vs,h1,h2.mono e⟩
 | dct ks=>exact h
 | non=>exact h
 | bl _=>exact h
 | int _=>exact h
 | str _=>exact h
 | tup _=>exact h
 | exc _=>exact h
 | lam _ _ _=>exact h
 | obj _ _ _=>exact h
 | fn _ _=>exact h
theorem OwnO.mu {K:W.Frag}(h:OwnO K H d o):MuB o:=by
 cases d with
 | lst ds=>obtain⟨vs,rfl,_⟩:=h;exact True.intro
 | dct ks=>obtain⟨kvs,rfl,_⟩:=h;exact True.intro
 | non=>cases h
 | bl _=>cases h
 | int _=>cases h
 | str _=>cases h
 | tup _=>cases h
 | exc _=>cases h
 | lam _ _ _=>cases h
 | obj _ _ _=>cases h
 | fn _ _=>cases h
theorem OwnO.den {K:W.Frag}(h:OwnO K H d o)(e:H a=some o):Den K H d (.ref a):=by
 cases d with
 | lst ds=>obtain⟨vs,rfl,h2⟩:=h;exact⟨a,vs,rfl,SqL.of e,h2⟩
 | dct ks=>obtain⟨kvs,rfl,h2⟩:=h;exact⟨a,kvs,rfl,e,h2⟩
 | non=>cases h
 | bl _=>cases h
 | int _=>cases h
 | str _=>cases h
 | tup _=>cases h
 | exc _=>cases h
 | lam _ _ _=>cases h
 | obj _ _ _=>cases h
 | fn _ _=>cases h
def SV (K:W.Frag)(H:Hp)(S:List Addr)(d:D)(o:Bool)(v:V):Prop :=
 if o=true then ∃ a u,v=.ref a/\a∈S/\H a=some u/\OwnO K (hide H S) d u else Den K (hide H S) d v
structure DS (K:W.Frag)(H:Hp)(S:List Addr)(B:St)(G:Dst):Prop where
 len:B.length=G.length
 sok:∀ a∈S,∃ xs:HO,H a=some xs/\MuB xs
 get:∀ (i:Nat) d o,G[i]?=some (some (d,o))->∃ v,B[i]?=some (some v)/\SV K H S d o v
 inj:∀ (i j:Nat) d e a,G[i]?=some (some (d,true))->G[j]?=some (some (e,true))->B[i]?=some (some (.ref a))->B[j]?=some (some (.ref a))->i=j
section
variable {K:W.Frag}{H H1 H':Hp}{S:List Addr}{B:St}{G:Dst}{d:D}{v:V}{i:Nat}
theorem SV.own (h:SV K H S d o v)(ho:o=true):∃ a u,v=.ref a/\a∈S/\H a=some u/\OwnO K (hide H S) d u:=by
 unfold SV at h;rw[if_pos ho] at h;exact h
theorem SV.ownL (h:SV K H S (.lst ds) o v)(ho:o=true):∃ a vs es,v=.ref a/\D.lst ds=.lst es/\a∈S/\H a=some (.lst vs)/\DenL K (hide H S) es vs:=by
 obtain⟨a,u,h1,h2,h3,vs,rfl,h5⟩:=h.own ho;exact⟨a,vs,ds,h1,rfl,h2,h3,h5⟩
theorem SV.den (h:SV K H S d o v)(ho:o=false):Den K (hide H S) d v:=by
 unfold SV at h;rw[if_neg (by simp_all)] at h;exact h
theorem SV.of_den (h:Den K (hide H S) d v):SV K H S d false v:=by assumption
theorem SV.of_own (h1:a∈S)(h2:H a=some u)(h3:OwnO K (hide H S) d u):SV K H S d true (.ref a):=⟨a,u,rfl,h1,h2,h3⟩
theorem SV.mono (e:Same H H')(h:SV K H S d o v):SV K H' S d o v:=by
 cases o with
 | true =>
  obtain⟨a,u,rfl,h1,h2,h3⟩:=h.own rfl;exact .of_own h1 (e _ _ h2) (h3.mono (zAM e))
 | false=>exact .of_den ((h.den rfl).mono (zAM e))
theorem DS.mono (h:DS K H S B G)(e:Same H H'):DS K H' S B G :=
 ⟨h.len,λa z=>let ⟨xs,q,mu⟩:=h.sok a z;⟨xs,e _ _ q,mu⟩,λi d o z=>let ⟨v,q1,q2⟩:=h.get i d o z;⟨v,q1,q2.mono e⟩,h.inj⟩
theorem zBC {T:Type}{l:List T}{i:Nat}{x:T}(h:i < l.length):(l.set i x)[i]?=some x:=by simp[h]
theorem zBo {T:Type}{l:List T}{i j:Nat}{x:T}(h:i≠j):(l.set i x)[j]?=l[j]?:=by simp_all
theorem zAO {T:Type}{l:List T}{i j:Nat}{x y:T}(h:(l.set i x)[j]?=some y):(i=j/\y=x/\i < l.length)\/(i≠j/\l[j]?=some y):=by
 by_cases e:i=j
 .subst e;by_cases q:i < l.length
  .simp_all
  .simp_all
 .simp_all
theorem DS.set (h:DS K H S B G)(hd:Den K (hide H S) d v):DS K H S (B.set i (some v)) (G.set i (some (d,false))):=by
 refine⟨by rw[length_set,length_set];exact h.len,h.sok,λj e o q=>?_,λj k e f a q1 q2 q3 q4=>?_⟩
 .rcases zAO q with ⟨rfl,z,hl⟩ | ⟨ne,z⟩
  .cases z;exact⟨v,zBC (by rw[h.len];exact hl),.of_den hd⟩
  .obtain _:=h.get j e o z
   simp_all
 .rcases zAO q1 with ⟨_,z,_⟩ | ⟨ne1,z1⟩
  .grind
  .rcases zAO q2 with ⟨_,z,_⟩ | ⟨ne2,z2⟩
   .cases z
   .rw [zBo ne1] at q3
    simp_all
    exact h.inj j k e f a z1 z2 q3 q4
theorem DS.setG (h:DS K H S B G)(e:Same H H')(n:H a=none)(ha:H' a=some u)(t:OwnO K (hide H' (a::S)) d u) :
  DS K H' (a::S) (B.set i (some (.ref a))) (G.set i (some (d,true))):=by
 refine⟨by rw[length_set,length_set];exact h.len,λb z=>?_,λj e' o q=>?_,λj k e' f b q1 q2 q3 q4=>?_⟩
 .rcases mem_cons.mp z with rfl | z
  .exact ⟨_,ha,t.mu⟩
  .obtain ⟨xs,q,mu⟩:=h.sok b z;exact⟨xs,e _ _ q,mu⟩
 .rcases zAO q with ⟨rfl,z,hl⟩ | ⟨ne,z⟩
  .cases z;exact⟨.ref a,zBC (by rw[h.len];exact hl),.of_own xq ha t⟩
  .obtain ⟨u,q1,q2⟩:=h.get j e' o z
   simp_all
   cases o with
   | true =>
    obtain⟨b,w,rfl,w1,w2,w3⟩:=q2.own rfl;exact .of_own (qJ _ w1) (e _ _ w2) (w3.mono (zDf e n))
   | false=>exact .of_den ((q2.den rfl).mono (zDf e n))
 .have old:∀ {j:Nat} {x:D},i≠j->G[j]?=some (some (x,true))->B[j]?=some (some (.ref a))->False:=λ{j x} ne z q=>by
   obtain⟨u,q1,q2⟩:=h.get j x true z;obtain⟨b,w,rfl,w1,w2,_⟩:=q2.own rfl;grind
  rcases zAO q1 with ⟨e1,z1,l1⟩ | ⟨ne1,z1⟩
  .rcases zAO q2 with ⟨e2,z2,l2⟩ | ⟨ne2,z2⟩
   .exact e1.symm.trans e2
   .rw [<- e1,zBC (by rw[h.len];exact l1)] at q3;cases q3;rw[zBo ne2] at q4;exact(old ne2 z2 q4).elim
  .rcases zAO q2 with ⟨e2,z2,l2⟩ | ⟨ne2,z2⟩
   .rw [<- e2,zBC (by rw[h.len];exact l2)] at q4;cases q4;rw[zBo ne1] at q3;exact(old ne1 z1 q3).elim
   .rw [zBo ne1] at q3;rw[zBo ne2] at q4;exact h.inj j k e' f b z1 z2 q3 q4
theorem DS.setF (h:DS K H S B G)(e:Same H H')(n:H a=none)(ha:H' a=some (.lst vs))(t:DenL K (hide H' (a::S)) ds vs) :
  DS K H' (a::S) (B.set i (some (.ref a))) (G.set i (some (.lst ds,true))):=h.setG e n ha ⟨vs,rfl,t⟩
theorem DS.changeG (h:DS K H S B G)(hi:G[i]?=some (some (d,true)))(hv:B[i]?=some (some (.ref a)))(t:OwnO K (hide H S) e0 u) :
  DS K (upd H a u) S B (G.set i (some (e0,true))):=by
 obtain⟨w,q1,q2⟩:=h.get i _ true hi;obtain⟨b,ws,e1,aS,w2,_⟩:=q2.own rfl;subst e1;rw[hv] at q1;cases q1;have hh:hide (upd H a u) S=hide H S:=zFW aS;refine⟨by rw[length_set];exact h.len,λb z=>?_,λj e' o q=>?_,λj k e' f b q1 q2 q3 q4=>?_⟩
 .by_cases q:b=a
  .subst q;exact⟨_,zAP,t.mu⟩
  .rw [zAN q];exact h.sok b z
 .rcases zAO q with ⟨rfl,z,hl⟩ | ⟨ne,z⟩
  .cases z;exact⟨.ref a,hv,.of_own aS zAP (by rw[hh];exact t)⟩
  .obtain ⟨w,q1,q2⟩:=h.get j e' o z
   simp_all
   cases o with
   | true =>
    obtain⟨b,ws',rfl,w1,w2',w3⟩:=q2.own rfl;exact .of_own w1 (by rw[zAN (λz2=>by subst z2;exact ne (h.inj i j _ _ b hi z hv q1))];exact w2') (by simp_all)
   | false=>exact .of_den (by rw[hh];exact q2.den rfl)
 .have back:∀ {j:Nat} {x:D},(G.set i (some (e0,true)))[j]?=some (some (x,true))->∃ y,G[j]?=some (some (y,true)):=λ{j x} z=>by
   rcases zAO z with ⟨e1,_,_⟩ | ⟨_,z⟩
   .rw [<- e1];exact⟨_,hi⟩
   .exact ⟨_,z⟩
  obtain⟨y1,z1⟩:=back q1;obtain⟨y2,z2⟩:=back q2;exact h.inj j k y1 y2 b z1 z2 q3 q4
theorem DS.change (h:DS K H S B G)(hi:G[i]?=some (some (.lst ds,true)))(hv:B[i]?=some (some (.ref a)))(t:DenL K (hide H S) es vs) :
  DS K (upd H a (.lst vs)) S B (G.set i (some (.lst es,true))):=h.changeG hi hv ⟨vs,rfl,t⟩
theorem DS.freeze (h:DS K H S B G)(hi:G[i]?=some (some (d,true))):∃ S',(∀ b∈S',b∈S)/\DS K H S' B (G.set i (some (d,false))):=by
 obtain⟨u,q1,q2⟩:=h.get i _ true hi;obtain⟨a,w,rfl,aS,w2,w3⟩:=q2.own rfl;have sub:∀ b∈S.filter (λb=>decide (b≠a)),b∈S:=λb z=>(mem_filter.mp z).1
 refine⟨S.filter _,sub,?_⟩;have hs:Same (hide H S) _:=zBn sub;refine⟨by rw[length_set];exact h.len,λb z=>h.sok b (sub b z),λj e' o q=>?_,λj k e' f b z1 z2 q3 q4=>?_⟩
 .rcases zAO q with ⟨rfl,z,hl⟩ | ⟨ne,z⟩
  .cases z;exact⟨.ref a,q1,.of_den ((w3.mono hs).den (by rw[zAL (λz=>by simpa using (mem_filter.mp z).2)];exact w2))⟩
  .obtain ⟨u,p1,p2⟩:=h.get j e' o z;refine⟨u,p1,?_⟩;cases o with
   | true =>
    obtain⟨b,ws',rfl,w1,w2',w3'⟩:=p2.own rfl;exact .of_own (mem_filter.mpr ⟨w1,by simpa using (λz2=>by subst z2;exact ne (h.inj i j _ _ b hi z q1 p1))⟩) w2' (w3'.mono hs)
   | false=>exact .of_den ((p2.den rfl).mono hs)
 .rcases zAO z1 with ⟨_,z,_⟩ | ⟨_,z1⟩
  .cases z
  .rcases zAO z2 with ⟨_,z,_⟩ | ⟨_,z2⟩
   .cases z
   .exact h.inj j k e' f b z1 z2 q3 q4
end
end DL
end
section
namespace DL
open PySem Spec PyProof.Rows L2
def gT (K:W.Frag)(f:Dst->Option R):TE:=λB H Q=>∃ S G r,DS K H S B G/\f G=some r/\∀ v H',Same H H'->RV K H H' S r v->Q v H'
def gB (K:W.Frag)(f:Dst->Option Bool):TT:=λB H Q=>∃ S G b,DS K H S B G/\f G=some b/\∀ H',Same H H'->Q b H'
def gA (K:W.Frag)(f:Dst->Option (List D)):TA:=λB H Q=>∃ S G ds,DS K H S B G/\f G=some ds/\∀ vs H',Same H H'->DenL K (hide H' S) ds vs->Q vs H'
def GE (X:Cx)(e:Expr)(f:Dst->Option R):Prop:=PE X e (gT X.K f)
def GT (X:Cx)(e:Expr)(f:Dst->Option Bool):Prop:=PT X e (gB X.K f)
def GA (X:Cx)(es:List Expr)(f:Dst->Option (List D)):Prop:=PA X es (gA X.K f)
theorem _root_.L2.PE.imp (h:PE X e t)(i:∀ B H Q,t' B H Q->t B H Q):PE X e t':=λpins s B H Q I q=>h pins s B H Q I (i B H Q q)
theorem _root_.L2.PT.imp (h:PT X e t)(i:∀ B H Q,t' B H Q->t B H Q):PT X e t':=λpins s B H Q I q=>h pins s B H Q I (i B H Q q)
theorem _root_.L2.PA.imp (h:PA X e t)(i:∀ B H Q,t' B H Q->t B H Q):PA X e t':=λpos pins s B H Q I q=>h pos pins s B H Q I (i B H Q q)
theorem bind_some {T M:Type}{o:Option T}{f:T->Option M}{b:M}(h:(o.bind f)=some b):∃ a,o=some a/\f a=some b:=by
 cases o with
 | none=>cases h
 | some a=>exact⟨a,rfl,h⟩
section
variable {X:Cx}
def OpD (K:W.Frag)(r:R2)(o:D->D->Option R):Prop :=
 ∀ (S:List Addr) (H:Hp) (x y:D) (z:R) (vx vy:V) (Q:VK),(∀ a∈S,∃ xs:HO,H a=some xs/\MuB xs)->o x y=some z->Rdv K H S x vx->Rdv K H S y vy->(∀ v H',Same H H'->RV K H H' S z v->Q v H')->r vx vy H Q
noncomputable def two (f g:Dst->Option R)(o:D->D->Option R):Dst->Option R:=λG=>(f G).bind λx=>(g G).bind λy=>o x.1 y.1
theorem zHb {r:R2}{o:D->D->Option R}{f g:Dst->Option R}(h:OpD X.K r o){B:St}{H:Hp}{Q:VK}(q:gT X.K (two f g o) B H Q):tOp r (gT X.K f) (gT X.K g) B H Q:=by
 obtain⟨S,G,z,ds,e,c⟩:=q;obtain⟨x,ex,e⟩:=bind_some e;obtain⟨y,ey,e⟩:=bind_some e;refine⟨S,G,x,ds,ex,λvx H1 s1 r1=>⟨S,G,y,ds.mono s1,ey,λvy H2 s2 r2=>?_⟩⟩;exact h S H2 x.1 y.1 z vx vy Q (ds.mono (s1.trans s2)).sok e (r1.rd.mono s2) r2.rd λv H' s3 r3=>c v H' (s1.trans (s2.trans s3)) (r3.from (s1.trans s2))
theorem zIi (ho:OpR X (binaryOp op) r)(h:OpD X.K r o)(ha:GE X a f)(hb:GE X b g):GE X (.BinOp a op b pos) (two f g o) :=
 (zRD ho ha hb).imp λ_ _ _ q=>zHb h q
theorem zSZ (ho:OpR X (compareOp op) r)(h:OpD X.K r o)(hm:behindInMarks op b=false)(ha:GE X a f)(hb:GE X b g):GE X (.Compare a [op] [b] pos) (two f g o) :=
 (zOo ho ha hb hm).imp λ_ _ _ q=>zHb h q
noncomputable def asB (f:Dst->Option R):Dst->Option Bool:=λG=>match f G with
 | some (.bl b,_)=>some b
 | _=>none
theorem zB4 (h:asB f G=some b):∃ k,f G=some (.bl b,k):=by
 unfold asB at h;split at h
 .simp_all
 .cases h
theorem zG8 {f:Dst->Option R}{B:St}{H:Hp}{Q:Bool->Hp->Prop}(q:gB X.K (asB f) B H Q):gT X.K f B H λx H'=>∃ k,x=.bl k/\Q k H':=by
 obtain⟨S,G,b,ds,e,c⟩:=q;obtain⟨k,e⟩:=zB4 e;refine⟨S,G,_,ds,e,λv H' s1 r1=>⟨b,r1.rd.bl,c H' s1⟩⟩
theorem zSA (ho:OpR X (compareOp op) r)(h:OpD X.K r o)(hm:behindInMarks op b=false)(ha:GE X a f)(hb:GE X b g):GT X (.Compare a [op] [b] pos) (asB (two f g o)) :=
 (zOj ho ha hb hm).imp λ_ _ _ q=>zHb h (zG8 q)
theorem zR7 (h:GE X e f)(he:∀ whole,isTrue e X.env whole=(do let v<-whole;standAt e.pos;holding [v] (truthy v))):GT X e (asB f) :=
 (zNk h he).imp λ_ _ _ q=>zG8 q
noncomputable def lstB:D->Bool
 | .lst _=>true
 | _=>false
noncomputable def varD (i:Nat):Dst->Option R:=λG=>match G[i]? with
 | some (some (d,o))=>if o=true then (if lstB d=true then some (d,.dt) else none) else some (d,.cl)
 | _=>none
theorem zSO (hN:X.N[i]?=some x)(hv:Vis X.env.scope x)(hd:(x==("__debug__":Str))=false)(hcd:(x==("__classdict__":Str))=false) :
  GE X (.Name x pos) (varD i):=by
 refine(zC0 hN hv hd hcd).imp λB H Q q=>?_
 obtain⟨S,G,z,ds,e,c⟩:=q;unfold varD at e;split at e
 .rename_i d o q;obtain⟨v,q1,q2⟩:=ds.get i d o q;cases o with
  | false =>
   cases e;exact⟨v,q1,c v H (Same.refl _) (q2.den rfl)⟩
  | true =>
   rw[if_pos rfl] at e;cases d with
   | lst xs =>
    cases e;refine⟨v,q1,c v H (Same.refl _) ?_⟩;obtain⟨a,vs,es,rfl,e2,_,w2,w3⟩:=q2.ownL rfl;exact⟨a,vs,es,rfl,e2,SqL.of w2,w3⟩
   | _=>cases e
 .cases e
theorem zDg (h:PE X e (tC v))(hd:∀ K H,Den K H d v):GE X e (λ_=>some (d,.cl)) :=
 h.imp λB H Q zz38=>by
  obtain⟨S,G,z,ds,e,c⟩:=zz38;cases e;exact c v H (Same.refl _) (hd _ _)
theorem ge_int {j pos}:GE X (.Constant (.int i) j pos) (λ_=>some (.int i,.cl)):=zDg zRI λ_ _=>by rw[Den]
theorem zUE {j pos}:GE X (.Constant (.bool b) j pos) (λ_=>some (.bl b,.cl)):=zDg zTf λ_ _=>by rw[Den]
theorem zST {j pos}:GE X (.Constant .none j pos) (λ_=>some (.non,.cl)):=zDg zRG λ_ _=>by rw[Den]
theorem zSR {j pos}:GE X (.Constant (.str x) j pos) (λ_=>some (.str x,.cl)):=zDg zRC λ_ _=>by rw[Den]
theorem zPp (hg:Gl X x)(hm:X.mg x=some u)(r:RelV v u)(hd:Den X.K (λ_=>none) d v)(hdb:(x==("__debug__":Str))=false):GE X (.Name x pos) (λ_=>some (d,.cl)) :=
 (zOn hg hm r hdb).imp λB H Q zz39=>by
  obtain⟨S,G,z,ds,e,c⟩:=zz39;cases e;exact c v H (Same.refl _) (hd.mono λb o q=>by cases q)
theorem zDB {g:Int->Int->Int}(h:∀ x y z,o x y=some z->∃ i j,x=.int i/\y=.int j/\C i j/\z=(.int (g i j),.cl)):OpD X.K (rI C λi j=>.int (g i j)) o:=by
 intro S H x y z vx vy Q _ e rx ry c;obtain⟨i,j,rfl,rfl,hc,rfl⟩:=h x y z e;exact⟨i,j,rx.int,ry.int,hc,c _ H (Same.refl _) (.int _)⟩
theorem zHa {g:Int->Int->Int}(h:∀ x y z,o x y=some z->∃ i j,x=.int i/\y=.int j/\z=(.int (g i j),.cl)):OpD X.K (rI0 λi j=>.int (g i j)) o:=by
 intro S H x y z vx vy Q _ e rx ry c;obtain⟨i,j,rfl,rfl,rfl⟩:=h x y z e;exact⟨i,j,rx.int,ry.int,c _ H (Same.refl _) (.int _)⟩
theorem zBB {g:Int->Int->Bool}(h:∀ x y z,o x y=some z->∃ i j,x=.int i/\y=.int j/\z=(.bl (g i j),.cl)):OpD X.K (rI0 λi j=>.bl (g i j)) o:=by
 intro S H x y z vx vy Q _ e rx ry c;obtain⟨i,j,rfl,rfl,rfl⟩:=h x y z e;exact⟨i,j,rx.int,ry.int,c _ H (Same.refl _) (.bl _)⟩
theorem zJj:OpR X (binaryOp .Mult) (rI IntMulOk λi j=>.int (i*j)):=opI λ_ _ _ _ _ _ _ hc q=>mul_int q hc
def zIu (_ j:Int):Prop:=j≠0
theorem zKE {pins:List (Addr×Obj)}{s:Shared}{B:St}{H:Hp}(I:Inv X pins B H s):PylongRoom (model X.prog X.w) X.A s:=by
 obtain⟨h1,h2,e,l,h3,h4,h5,h6,h7⟩:=I.ok.pyl;exact PylongRoom.of I.nolimit h1 (SeerAt.of (I.mod.seer.keeps I.bk) h2 (by rw[I.ok.frames,h3]) h4 h5 h6 h7)
theorem zHc:OpR X (binaryOp .FloorDiv) (rI zIu λi j=>.int (i.fdiv j)):=by
 intro pins s B H x y v u Q I rx ry h;obtain⟨i,j,rfl,rfl,hc,q⟩:=h;obtain⟨t,rfl⟩:=rx;obtain⟨t',rfl⟩:=ry;exact floordiv_int hc ⟨.int (i.fdiv j),H,I.tok _,⟨_,rfl⟩,q⟩ (.inr (zKE I))
theorem zF9 (l:Addr)(items:Array Value)(n:Nat)(dd:Option Addr)(sl:Array (Option Value))(b:Addr)(items2:Array Value)(n2:Nat)(dd2:Option Addr)(sl2:Array (Option Value))(hc0:items.size+items2.size<=sizeLine) :
  Meets (Builtin.«list.__add__» ⟨[.ref l,.ref b],[]⟩) (λ_ R s=>s.heap.get? l=some { cls:=.type "list",dict:=dd,data:=.seq items n,slots:=sl }/\s.heap.get? b=some { cls:=.type "list",dict:=dd2,data:=.seq items2 n2,slots:=sl2 }/\R (.ok (.ret (Value.ref s.heap.objs.size))) { s with heap:=s.heap.push { cls:=Value.type "list",data:=Data.seq (items++items2) },toks:=s.toks }) :=
 .of_wp λprog w A R s h=>by obtain _:=s;obtain⟨hl,hb,h⟩:=h;have f3:=AutoSeq1.sub_list_list;wp_walk using AutoSeq1.wpAny_loadPart' hl,AutoSeq1.wpAny_loadPart' hb;exact⟨_,rfl,h⟩
end
mutual
noncomputable def toPy:D->PyData
 | .non=>.none
 | .bl b=>.bool b
 | .int i=>.int i
 | .str x=>.str x
 | .tup ds=>.tuple (toPyL ds)
 | .lst ds=>.list (toPyL ds)
 | .exc _=>.str ⟨#[1114112]⟩
 | .dct _=>.str ⟨#[1114112]⟩
 | .lam _ _ _=>.str ⟨#[1114112]⟩
 | .obj _ _ _=>.str ⟨#[1114112]⟩
 | .fn _ _=>.str ⟨#[1114112]⟩
noncomputable def toPyL:List D->List PyData
 | []=>[]
 | d::ds=>toPy d::toPyL ds
end
theorem Rdv.whole {K:W.Frag}(h:Rdv K H S d v):Den K H d v:=by
 rcases h with h | ⟨a,vs,ds,rfl,rfl,h1,h2⟩
 .exact h.mono zAa
 .exact ⟨a,vs,rfl,h1,h2.mono zAa⟩
section
variable {X:Cx}{pins:List (Addr×Obj)}{B:St}{H:Hp}{s:Shared}
mutual
theorem zCz (I:Inv X pins B H s):∀ {d:D} {v:V} {u:Value},Den X.K H d v->RelV v u->(toPy d).canLay0=true->∃ as,Reads s.heap u (toPy d) as
 | .non,_,_,h,r,_=>by rw[Den] at h;subst h;cases r;rw[toPy];exact⟨_,.none⟩
 | .bl b,_,_,h,r,_=>by rw[Den] at h;subst h;cases r;rw[toPy];exact⟨_,.bool b⟩
 | .int i,_,_,h,r,_=>by rw[Den] at h;subst h;obtain⟨t,rfl⟩:=r;rw[toPy];exact⟨_,.int i t⟩
 | .str x,_,_,h,r,_=>by rw[Den] at h;subst h;obtain⟨t,rfl⟩:=r;rw[toPy];exact⟨_,.str x t⟩
 | .tup ds,_,_,h,r,cl=>by
  rw[toPy,PyData.canLay0] at cl;rw[Den] at h;obtain⟨a,vs,rfl,h1,h2⟩:=h;cases r;obtain⟨its,rv,⟨o,e1,e2,n,e3⟩,_⟩:=I.tuple h1;obtain⟨as,q⟩:=readsL_of I h2 rv cl;rw[toPy];exact⟨_,.tuple e1 e2 e3 q⟩
 | .exc c,_,_,h,r,cl=>by rw[toPy,PyData.canLay0] at cl;exact absurd cl (by decide +kernel)
 | .dct c,_,_,h,r,cl=>by rw[toPy,PyData.canLay0] at cl;exact absurd cl (by decide +kernel)
 | .lam _ _ _,_,_,h,r,cl=>by rw[toPy,PyData.canLay0] at cl;exact absurd cl (by decide +kernel)
 | .obj _ _ _,_,_,h,r,cl=>by rw[toPy,PyData.canLay0] at cl;exact absurd cl (by decide +kernel)
 | .fn _ _,_,_,h,r,cl=>by rw[toPy,PyData.canLay0] at cl;exact absurd cl (by decide +kernel)
 | .lst ds,_,_,h,r,cl=>by
  rw[toPy,PyData.canLay0] at cl;rw[Den] at h;obtain⟨a,vs,rfl,h1,h2⟩:=h;cases r;obtain⟨its,rv,⟨o,n,e1,e2,_,e3⟩,_⟩:=I.list h1;obtain⟨as,q⟩:=readsL_of I h2 rv cl;rw[toPy];exact⟨_,.list e1 e2 e3 q⟩
theorem readsL_of (I:Inv X pins B H s):∀ {ds:List D} {vs:List V} {us:List Value},DenL X.K H ds vs->Vals vs us->PyData.canLayAll0 (toPyL ds)=true->∃ as,ReadsAll s.heap us (toPyL ds) as
 | [],_,_,h,r,_=>by rw[DenL] at h;subst h;cases r;rw[toPyL];exact⟨_,.nil⟩
 | d::ds,_,_,h,r,cl=>by
  rw[toPyL,PyData.canLayAll0,x9] at cl;rw[DenL] at h;obtain⟨v,ws,rfl,h1,h2⟩:=h;cases r with
  | cons r1 r2 =>
   obtain⟨a1,q1⟩:=zCz I h1 r1 cl.1;obtain⟨a2,q2⟩:=readsL_of I h2 r2 cl.2;rw[toPyL];exact⟨_,.cons q1 q2⟩
end
end
def EqOk (x y:D):Prop:=(toPy x).canLay0=true/\(toPy y).canLay0=true/\(toPy x).depth<=64
noncomputable instance (x y:D):Decidable (EqOk x y):=by unfold EqOk;exact inferInstance
noncomputable def eqb (x y:D):Bool:=PyData.eqv (toPy x) (toPy y)
def rEqD (K:W.Frag)(f:Bool->Bool):R2:=λvx vy H Q=>∃ x y,Den K H x vx/\Den K H y vy/\EqOk x y/\Q (.bl (f (eqb x y))) H
section
variable {X:Cx}
theorem zRV (hu:X.A.units+64 < cLine):OpR X (compareOp .Eq) (rEqD X.K id):=by
 intro pins s B H x y v u Q I rx ry h;obtain⟨d,e,hd,he,⟨o1,o2,o3⟩,q⟩:=h;obtain⟨as,r1⟩:=zCz I hd rx o1;obtain⟨bs,r2⟩:=zCz I he ry o2;exact SeqAt.rcAt_reads r1 r2 o1 o2 (by omega) X.prog X.w _ _ ⟨.bl _,H,I,rfl,q⟩
theorem zRO (hu:X.A.units+64 < cLine):OpR X (compareOp .NotEq) (rEqD X.K (λb=>!b)):=by
 intro pins s B H x y v u Q I rx ry h;obtain⟨d,e,hd,he,⟨o1,o2,o3⟩,q⟩:=h;obtain⟨as,r1⟩:=zCz I hd rx o1;obtain⟨bs,r2⟩:=zCz I he ry o2;exact SeqAt.rcNeAt_reads r1 r2 o1 o2 (by omega) X.prog X.w _ _ ⟨.bl _,H,I,rfl,q⟩
def eqD (f:Bool->Bool)(x y:D):Option R:=if EqOk x y then some (.bl (f (eqb x y)),.cl) else none
theorem zNs :OpD X.K (rEqD X.K f) (eqD f):=by
 intro S H x y z vx vy Q _ e rx ry c;unfold eqD at e;by_cases ok:EqOk x y
 .rw [if_pos ok] at e;cases e;exact⟨x,y,rx.whole,ry.whole,ok,c _ H (Same.refl _) (.bl _)⟩
 .simp_all
noncomputable def nonB:D->Bool
 | .non=>true
 | _=>false
noncomputable def isN (f:Bool->Bool)(x y:D):Option R:=match y with
 | .non=>some (.bl (f (nonB x)),.cl)
 | _=>none
theorem zLI {K:W.Frag}(h:Den K H x v):decide (v=.non)=nonB x:=by
 cases x with
 | non=>rw[Den] at h;subst h;rfl
 | bl b=>rw[Den] at h;subst h;rfl
 | int i=>rw[Den] at h;subst h;rfl
 | str i=>rw[Den] at h;subst h;rfl
 | tup ds=>rw[Den] at h;obtain⟨a,vs,rfl,_⟩:=h;rfl
 | lst ds=>rw[Den] at h;obtain⟨a,vs,rfl,_⟩:=h;rfl
 | exc c=>rw[Den] at h;obtain⟨a,o,u,C,rfl,_⟩:=h;rfl
 | dct c=>rw[Den] at h;obtain⟨a,kvs,rfl,_⟩:=h;rfl
 | lam _ _ _=>rw[Den] at h;obtain⟨a,vs,rfl,_⟩:=h;rfl
 | obj _ _ _=>rw[Den] at h;obtain⟨a,vs,rfl,_⟩:=h;rfl
 | fn _ _=>rw[Den] at h;obtain⟨a,rfl,_⟩:=h;rfl
theorem zOs:OpD X.K (λx y H Q=>y=.non/\Q (.bl (decide (x=.non))) H) (isN id):=by
 intro S H x y z vx vy Q _ e rx ry c;cases y with
 | non =>
  cases e;exact⟨ry.whole,by rw[zLI rx.whole];exact c _ H (Same.refl _) (.bl _)⟩
 | _=>cases e
theorem zMD:OpD X.K (λx y H Q=>y=.non/\Q (.bl (!decide (x=.non))) H) (isN (λb=>!b)):=by
 intro S H x y z vx vy Q _ e rx ry c;cases y with
 | non =>
  cases e;exact⟨ry.whole,by rw[zLI rx.whole];exact c _ H (Same.refl _) (.bl _)⟩
 | _=>cases e
theorem DenL.atI {K:W.Frag}(h:DenL K H ds vs)(e:atI ds i=some d):∃ v,L2.atI vs i=some v/\Den K H d v:=by
 unfold L2.atI at e ⊢;obtain⟨j,e1,e2⟩:=bind_some e;obtain⟨v,q1,q2⟩:=h.get e2;refine⟨v,?_,q2⟩;rw[<- h.length,e1];exact q1
noncomputable def ixD (x y:D):Option R:=match x,y with
 | .lst ds,.int i=>(atI ds i).map λd=>(d,.cl)
 | .tup ds,.int i=>(atI ds i).map λd=>(d,.cl)
 | _,_=>none
theorem zRN:OpD X.K (λx y H Q=>rIxL X.K x y H Q\/rIxT X.K x y H Q) ixD:=by
 intro S H x y z vx vy Q _ e rx ry c;unfold ixD at e;split at e
 .rename_i ds i;obtain⟨d,e1,rfl⟩:=yq.mp e;obtain⟨a,vs,rfl,h1,h2⟩:=rx.lst;obtain⟨v,q1,q2⟩:=h2.atI e1;exact .inl ⟨a,vs,i,v,rfl,ry.int,h1,q1,c v H (Same.refl _) q2⟩
 .rename_i ds i;obtain⟨d,e1,rfl⟩:=yq.mp e;obtain⟨a,vs,rfl,h1,h2⟩:=rx.tup;obtain⟨v,q1,q2⟩:=h2.atI e1;exact .inr ⟨a,vs,i,v,rfl,ry.int,h1,q1,c v H (Same.refl _) q2⟩
 .cases e
theorem zUB (ha:GE X a f)(hb:GE X b g)(hs:zFl b):GE X (.Subscript a b pos) (two f g ixD) :=
 (zRH (zKH.or zN3) ha hb hs).imp λ_ _ _ q=>zHb zRN q
theorem zSd:GA X [] (λ_=>some []):=zA1.imp λB H Q zz40=>by
 obtain⟨S,G,z,ds,e,c⟩:=zz40;cases e;exact c [] H (Same.refl _) .nil
noncomputable def zNH (f:Dst->Option R)(g:Dst->Option (List D)):Dst->Option (List D):=λG=>(f G).bind λx=>if x.2=.dt then none else (g G).bind λxs=>some (x.1::xs)
theorem zPx (ha:GE X e f)(hr:GA X es g)(hs:starEach (e::es) X.env=(false,eval e X.env)::starEach es X.env):GA X (e::es) (zNH f g):=by
 refine(zAU ha hr hs).imp λB H Q zz41=>?_
 obtain⟨S,G,z,ds,e,c⟩:=zz41;obtain⟨x,ex,e⟩:=bind_some e;by_cases hx:x.2=.dt
 .rw [if_pos hx] at e;cases e
 rw[if_neg hx] at e;obtain⟨xs,exs,e⟩:=bind_some e;cases e;refine⟨S,G,x,ds,ex,λv H1 s1 r1=>⟨S,G,xs,ds.mono s1,exs,λvs H2 s2 r2=>?_⟩⟩;exact c _ H2 (s1.trans s2) (.cons ((RV.den (d:=x.1) (k:=x.2) r1 hx).mono (zAM s2)) r2)
noncomputable def tupD (g:Dst->Option (List D)):Dst->Option R:=λG=>(g G).bind λxs=>if xs.length<=10000 then some (.tup xs,.cl) else none
noncomputable def lstD (g:Dst->Option (List D)):Dst->Option R:=λG=>(g G).bind λxs=>if xs.length<=10000 then some (.lst xs,.fr) else none
theorem zCw (h:n<=10000):n<=sizeLine:=le_trans h (by decide)
theorem notS {H:Hp}{S:List Addr}(h:∀ a∈S,∃ xs:HO,H a=some xs/\MuB xs)(n:H p=none):p∉S:=by grind
theorem RV.tupNew {K:W.Frag}(hS:∀ a∈S,∃ xs:HO,H1 a=some xs/\MuB xs)(n:H1 p=none)(t:DenL K (hide H1 S) ds vs):RV K H (upd H1 p (.tup vs)) S (.tup ds,.cl) (.ref p):=⟨p,vs,rfl,SqT.of (by rw[zAL (notS hS n)];exact zAP),t.mono (zAM (zAQ n _))⟩
theorem RV.lstNew {K:W.Frag}(e:Same H H1)(hS:∀ a∈S,∃ xs:HO,H1 a=some xs/\MuB xs)(n:H1 p=none)(t:DenL K (hide H1 S) ds vs):RV K H (upd H1 p (.lst vs)) S (.lst ds,.fr) (.ref p) :=
 ⟨p,vs,ds,rfl,rfl,notS hS n,e.free n,zAP,t.mono (zDf (zAQ n _) n)⟩
theorem zSP {x1}(h:GA X es g):GE X (.Tuple es x1 pos) (tupD g):=by
 refine(zNp h).imp λB H Q zz42=>?_
 obtain⟨S,G,z,ds,e,c⟩:=zz42;obtain⟨xs,exs,e⟩:=bind_some e;by_cases hx:xs.length<=10000
 .rw [if_pos hx] at e;cases e;refine⟨S,G,xs,ds,exs,λvs H1 s1 r1=>⟨by rw[<- r1.length];exact zCw hx,λp n=>?_⟩⟩;exact c _ _ (s1.trans (zAQ n _)) (.tupNew (ds.mono s1).sok n r1)
 .rw [if_neg hx] at e;cases e
theorem zSV (h:GA X es g):GE X (.List es pos) (lstD g):=by
 refine(zNq h).imp λB H Q zz43=>?_
 obtain⟨S,G,z,ds,e,c⟩:=zz43;obtain⟨xs,exs,e⟩:=bind_some e;by_cases hx:xs.length<=10000
 .rw [if_pos hx] at e;cases e;refine⟨S,G,xs,ds,exs,λvs H1 s1 r1=>⟨by rw[<- r1.length];exact zCw hx,λp n=>?_⟩⟩;exact c _ _ (s1.trans (zAQ n _)) (.lstNew s1 (ds.mono s1).sok n r1)
 .rw [if_neg hx] at e;cases e
end
section
variable {X:Cx}
noncomputable def notD (f:Dst->Option R):Dst->Option R:=λG=>(asB f G).bind λb=>some (.bl (!b),.cl)
theorem zG9 (ds:DS X.K H S B G)(e:asB f G=some b)(c:∀ H',Same H H'->Q (.bl b) H'):gT X.K f B H Q:=by
 obtain⟨k,e⟩:=zB4 e;exact⟨S,G,_,ds,e,λv H' s1 r1=>by rw[r1.rd.bl];exact c H' s1⟩
theorem zSS (h:GE X a f):GE X (.UnaryOp .Not a pos) (notD f):=by
 refine(zRF h).imp λB H Q zz44=>?_
 obtain⟨S,G,z,ds,e,c⟩:=zz44;obtain⟨b,eb,e⟩:=bind_some e;cases e;exact zG9 ds eb λH' s1=>⟨b,rfl,c _ H' s1 (.bl _)⟩
theorem zQZ (h:asB (notD f) G=some b):asB f G=some (!b):=by
 obtain⟨k,e⟩:=zB4 h;obtain⟨c,ec,e⟩:=bind_some e
 simp_all
theorem zR8 (h:GT X a (asB f)):GT X (.UnaryOp .Not a pos) (asB (notD f)) :=
 (zNl h).imp λB H Q zy134=>by obtain⟨S,G,b,ds,e,c⟩:=zy134;exact⟨S,G,!b,ds,zQZ e,λH' s1=>by show Q (!!b) H';rw[Bool.not_not];exact c H' s1⟩
noncomputable def andD (f g:Dst->Option R):Dst->Option R:=λG=>(asB f G).bind λb=>if b=true then g G else some (.bl false,.cl)
noncomputable def orD (f g:Dst->Option R):Dst->Option R:=λG=>(asB f G).bind λb=>if b=true then some (.bl true,.cl) else g G
theorem zSc (ha:GE X a f)(hb:GE X (.BoolOp .And (b::rest) pos) g):GE X (.BoolOp .And (a::b::rest) pos) (andD f g):=by
 refine(zRJ ha hb).imp λB H Q zz45=>?_
 obtain⟨S,G,z,ds,e,c⟩:=zz45;obtain⟨b,eb,e⟩:=bind_some e;refine zG9 ds eb λH1 s1=>⟨b,rfl,?_⟩
 cases b with
 | true =>
  rw[if_pos rfl] at e ⊢;exact⟨S,G,z,ds.mono s1,e,λv H' s2 r2=>c v H' (s1.trans s2) (r2.from s1)⟩
 | false =>
  rw[if_neg qY] at e ⊢;cases e;exact c _ H1 s1 (.bl _)
theorem zUA (ha:GE X a f)(hb:GE X (.BoolOp .Or (b::rest) pos) g):GE X (.BoolOp .Or (a::b::rest) pos) (orD f g):=by
 refine(zTe ha hb).imp λB H Q zz46=>?_
 obtain⟨S,G,z,ds,e,c⟩:=zz46;obtain⟨b,eb,e⟩:=bind_some e;refine zG9 ds eb λH1 s1=>⟨b,rfl,?_⟩
 cases b with
 | true =>
  rw[if_pos rfl] at e ⊢;cases e;exact c _ H1 s1 (.bl _)
 | false =>
  rw[if_neg qY] at e ⊢;exact⟨S,G,z,ds.mono s1,e,λv H' s2 r2=>c v H' (s1.trans s2) (r2.from s1)⟩
theorem zN8 {op}(h:GE X a f):GE X (.BoolOp op [a] pos) f:=zRE h
def GW (X:Cx)(e:Expr)(f:Dst->Option Bool):Prop:=PW X e (gB X.K f)
theorem _root_.L2.PW.imp (h:PW X e t)(i:∀ B H Q,t' B H Q->t B H Q):PW X e t':=λwhole pins s B H Q I q=>h whole pins s B H Q I (i B H Q q)
theorem zIe (h:GT X a f):GW X (.BoolOp .And [a] pos) f:=zJV h
theorem zKO (h:GT X a f):GW X (.BoolOp .Or [a] pos) f:=zNi h
theorem zQa (h:asB (andD f g) G=some b):(asB f G=some true/\asB g G=some b)\/(asB f G=some false/\b=false):=by
 obtain⟨k,e⟩:=zB4 h;obtain⟨c,ec,e⟩:=bind_some e;cases c with
 | true =>
  rw[if_pos rfl] at e;exact .inl ⟨ec,by unfold asB;rw[e]⟩
 | false =>
  grind
theorem zTG (h:asB (orD f g) G=some b):(asB f G=some false/\asB g G=some b)\/(asB f G=some true/\b=true):=by
 obtain⟨k,e⟩:=zB4 h;obtain⟨c,ec,e⟩:=bind_some e;cases c with
 | true =>
  grind
 | false =>
  rw[if_neg qY] at e;exact .inl ⟨ec,by unfold asB;rw[e]⟩
theorem zR6 (ha:GT X a (asB f))(hb:GW X (.BoolOp .And (b::rest) pos) (asB g)):GW X (.BoolOp .And (a::b::rest) pos) (asB (andD f g)):=by
 refine PW.imp (zNj ha hb) λB H Q zz47=>?_
 obtain⟨S,G,b,ds,e,c⟩:=zz47;rcases zQa e with ⟨e1,e2⟩ | ⟨e1,rfl⟩
 .refine ⟨S,G,true,ds,e1,λH1 s1=>?_⟩;refine iteT ?_;exact⟨S,G,b,ds.mono s1,e2,λH' s2=>c H' (s1.trans s2)⟩
 .refine ⟨S,G,false,ds,e1,λH1 s1=>?_⟩;refine iteF ?_;exact c H1 s1
theorem zT4 (ha:GT X a (asB f))(hb:GW X (.BoolOp .Or (b::rest) pos) (asB g)):GW X (.BoolOp .Or (a::b::rest) pos) (asB (orD f g)):=by
 refine PW.imp (zQ6 ha hb) λB H Q zz48=>?_
 obtain⟨S,G,b,ds,e,c⟩:=zz48;rcases zTG e with ⟨e1,e2⟩ | ⟨e1,rfl⟩
 .refine ⟨S,G,false,ds,e1,λH1 s1=>?_⟩;refine iteF ?_;exact⟨S,G,b,ds.mono s1,e2,λH' s2=>c H' (s1.trans s2)⟩
 .refine ⟨S,G,true,ds,e1,λH1 s1=>?_⟩;refine iteT ?_;exact c H1 s1
noncomputable def iteD (c f g:Dst->Option R):Dst->Option R:=λG=>(asB c G).bind λb=>if b=true then f G else g G
theorem zSW (hc:GT X c (asB k))(ha:GE X a f)(hb:GE X b g):GE X (.IfExp c a b pos) (iteD k f g):=by
 refine(zL9 hc ha hb).imp λB H Q zz49=>?_
 obtain⟨S,G,z,ds,e,c⟩:=zz49;obtain⟨b,eb,e⟩:=bind_some e;refine⟨S,G,b,ds,eb,λH1 s1=>?_⟩;cases b with
 | true =>
  rw[if_pos rfl] at e ⊢;exact⟨S,G,z,ds.mono s1,e,λv H' s2 r2=>c v H' (s1.trans s2) (r2.from s1)⟩
 | false =>
  rw[if_neg qY] at e ⊢;exact⟨S,G,z,ds.mono s1,e,λv H' s2 r2=>c v H' (s1.trans s2) (r2.from s1)⟩
theorem zR9 (hc:GT X c (asB k))(ha:GT X a (asB f))(hb:GT X b (asB g)):GT X (.IfExp c a b pos) (asB (iteD k f g)):=by
 intro pins s B H Q I ⟨S,G,z,ds,e,cc⟩;obtain⟨kk,e⟩:=zB4 e;obtain⟨b,eb,e⟩:=bind_some e;refine isTrue_IfExp (thn (hc pins s B H (λb' H1=>b'=b/\Same H H1) I ⟨S,G,b,ds,eb,λH1 s1=>⟨rfl,s1⟩⟩) λd s1 zz50=>?_);obtain⟨H1,I1,q1,w1⟩:=zz50;subst q1;cases d with
 | true =>
  rw[if_pos rfl] at e;exact ha pins s1 B H1 Q I1 ⟨S,G,z,ds.mono w1,by unfold asB;rw[e],λH' s2=>cc H' (w1.trans s2)⟩
 | false =>
  rw[if_neg qY] at e;exact hb pins s1 B H1 Q I1 ⟨S,G,z,ds.mono w1,by unfold asB;rw[e],λH' s2=>cc H' (w1.trans s2)⟩
noncomputable def negD (f:Dst->Option R):Dst->Option R:=λG=>match f G with
 | some (.int i,_)=>some (.int (-i),.cl)
 | _=>none
theorem zSU (h:GE X a f):GE X (.UnaryOp .USub a pos) (negD f):=by
 refine(zTd zQh h).imp λB H Q zz51=>?_
 obtain⟨S,G,z,ds,e,c⟩:=zz51;unfold negD at e;split at e
 .rename_i i k ei;cases e;exact⟨S,G,_,ds,ei,λv H' s1 r1=>⟨i,r1.rd.int,c _ H' s1 (.int _)⟩⟩
 .cases e
noncomputable def cutD (ds:List D)(lo hi:Option Int):List D:=(ds.drop (HT.sIx ds.length 0 lo)).take (HT.sIx ds.length ds.length hi - HT.sIx ds.length 0 lo)
theorem DenL.cut {K:W.Frag}(h:DenL K H ds vs)(lo hi:Option Int):DenL K H (cutD ds lo hi) (cutV vs lo hi):=by
 unfold cutD cutV;rw[<- h.length];exact(h.drop _).take _
def gO (K:W.Frag)(f:Dst->Option (Option Int)):TO:=λB H Q=>∃ S G o,DS K H S B G/\f G=some o/\∀ H',Same H H'->Q o H'
def GO (X:Cx)(e:Option Expr)(f:Dst->Option (Option Int)):Prop:=PO X e (gO X.K f)
theorem _root_.L2.PO.imp (h:PO X e t)(i:∀ B H Q,t' B H Q->t B H Q):PO X e t':=λpins s B H Q I q=>h pins s B H Q I (i B H Q q)
theorem zPg:GO X none (λ_=>some none):=PO.imp zGn λB H Q zy135=>by obtain⟨S,G,o,ds,e,c⟩:=zy135;cases e;exact c H (Same.refl _)
noncomputable def zJe (f:Dst->Option R):Dst->Option (Option Int):=λG=>match f G with
 | some (.int i,_)=>some (some i)
 | _=>none
theorem zPf (h:GE X e f):GO X (some e) (zJe f):=PO.imp (zGm h) λB H Q zz52=>by
 obtain⟨S,G,o,ds,e,c⟩:=zz52;unfold zJe at e;split at e
 .rename_i i k ei;cases e;exact⟨S,G,_,ds,ei,λv H' s1 r1=>⟨i,r1.rd.int,c H' s1⟩⟩
 .cases e
noncomputable def slD (f:Dst->Option R)(l h:Dst->Option (Option Int)):Dst->Option R:=λG=>(f G).bind λx=>(l G).bind λlo=>(h G).bind λhi=>match x.1 with
 | .lst ds=>some (.lst (cutD ds lo hi),.fr)
 | .tup ds=>if HT.sIx ds.length 0 lo=0/\HT.sIx ds.length ds.length hi=ds.length then none else some (.tup (cutD ds lo hi),.cl)
 | _=>none
theorem zT9 {lo:Option Expr}(ha:GE X a f)(hl:GO X lo l)(hh:GO X hi h):GE X (.Subscript a (.Slice lo hi none p2) pos) (slD f l h):=by
 refine(zFO (zGc.or zQw) ha hl hh).imp λB H Q zz53=>?_
 obtain⟨S,G,z,ds,e,c⟩:=zz53;obtain⟨x,ex,e⟩:=bind_some e;obtain⟨lo',el,e⟩:=bind_some e;obtain⟨hi',eh,e⟩:=bind_some e;split at e
 .rename_i es ex2;cases e;refine⟨S,G,x,ds,ex,λvx H1 s1 r1=>⟨S,G,lo',ds.mono s1,el,λH2 s2=>⟨S,G,hi',ds.mono (s1.trans s2),eh,λH3 s3=>?_⟩⟩⟩;have r3:=r1.rd.mono (s2.trans s3);rw[ex2] at r3;obtain⟨a,vs,rfl,h1,h2⟩:=r3.lst;have s13:=s1.trans (s2.trans s3);exact .inl ⟨a,vs,rfl,h1,λp n=>c _ _ (s13.trans (zAQ n _)) (.lstNew s13 (ds.mono s13).sok n (h2.cut lo' hi'))⟩
 .rename_i es ex2;split at e
  .cases e
  .rename_i nw;cases e;refine⟨S,G,x,ds,ex,λvx H1 s1 r1=>⟨S,G,lo',ds.mono s1,el,λH2 s2=>⟨S,G,hi',ds.mono (s1.trans s2),eh,λH3 s3=>?_⟩⟩⟩;have r3:=r1.rd.mono (s2.trans s3);rw[ex2] at r3;obtain⟨a,vs,rfl,h1,h2⟩:=r3.tup;have s13:=s1.trans (s2.trans s3);exact .inr ⟨a,vs,rfl,h1,by rw[<- h2.length];exact nw,λp n=>c _ _ (s13.trans (zAQ n _)) (.tupNew (ds.mono s13).sok n (h2.cut lo' hi'))⟩
 .cases e
def OpD1 (K:W.Frag)(r:List V->Hp->VK->Prop)(o:D->Option R):Prop :=
 ∀ (S:List Addr) (H:Hp) (x:D) (z:R) (vx:V) (Q:VK),(∀ a∈S,∃ xs:HO,H a=some xs/\MuB xs)->o x=some z->Rdv K H S x vx->(∀ v H',Same H H'->RV K H H' S z v->Q v H')->r [vx] H Q
noncomputable def one (f:Dst->Option R)(o:D->Option R):Dst->Option R:=λG=>(f G).bind λx=>o x.1
theorem zNw {r:List V->Hp->VK->Prop}{o:D->Option R}{f:Dst->Option R}(h:OpD1 X.K r o){B:St}{H:Hp}{Q:VK}(q:gT X.K (one f o) B H Q):tCB r (zQq (gT X.K f) tNil) B H Q:=by
 obtain⟨S,G,z,ds,e,c⟩:=q;obtain⟨x,ex,e⟩:=bind_some e;exact⟨S,G,x,ds,ex,λvx H1 s1 r1=>h S H1 x.1 z vx Q (ds.mono s1).sok e r1.rd λv H' s2 r2=>c v H' (s1.trans s2) (r2.from s1)⟩
theorem zSb {id:String}(hc:zEJ X (.builtin id) r)(h:OpD1 X.K r o)(hg:Gl X x)(hm:X.mg x=none)(hv:bootBuiltins x=some (.builtin id))(ha:GE X e f)
  (he:starEach [e] X.env=[(false,eval e X.env)]) (hn:x ≠ "__name__") (hdb:(x==("__debug__":Str))=false):GE X (.Call (.Name x p) [e] [] pos) (one f o) :=
 (zFP hc hg hm hv (zAU ha zA1 he) hn hdb he rfl).imp λ_ _ _ q=>zNw h q
theorem zSQ (hc:zEJ X (.type T) r)(h:OpD1 X.K r o)(hg:Gl X x)(hm:X.mg x=none)(hv:bootBuiltins x=some (.type T))(ha:GE X e f)
  (he:starEach [e] X.env=[(false,eval e X.env)]) (hn:x ≠ "__name__") (hdb:(x==("__debug__":Str))=false):GE X (.Call (.Name x p) [e] [] pos) (one f o) :=
 (zFz hc hg hm hv (zAU ha zA1 he) hn hdb he rfl).imp λ_ _ _ q=>zNw h q
noncomputable def lenD:D->Option R
 | .lst ds=>some (.int ds.length,.cl)
 | .tup ds=>some (.int ds.length,.cl)
 | _=>none
theorem zOr:OpD1 X.K (λxs H Q=>∃ p ys,xs=[.ref p]/\(SqL X.K H p ys\/SqT X.K H p ys)/\Q (.int ys.length) H) lenD:=by
 intro S H x z vx Q _ e rx c;unfold lenD at e;split at e
 .cases e;obtain⟨a,vs,rfl,h1,h2⟩:=rx.lst;exact⟨a,vs,rfl,.inl h1,by rw[<- h2.length];exact c _ H (Same.refl _) (.int _)⟩
 .cases e;obtain⟨a,vs,rfl,h1,h2⟩:=rx.tup;exact⟨a,vs,rfl,.inr h1,by rw[<- h2.length];exact c _ H (Same.refl _) (.int _)⟩
 .cases e
noncomputable def absD:D->Option R
 | .int i=>some (.int (if i < 0 then -i else i),.cl)
 | _=>none
theorem zOt:OpD1 X.K (λxs H Q=>∃ i,xs=[.int i]/\Q (.int (if i < 0 then -i else i)) H) absD:=by
 intro S H x z vx Q _ e rx c;unfold absD at e;split at e
 .cases e;rename_i i;have:=rx.int;subst this;exact⟨i,rfl,c _ H (Same.refl _) (.int _)⟩
 .cases e
noncomputable def zIc:D->Option R
 | .lst ds=>some (.lst ds,.fr)
 | .tup ds=>some (.lst ds,.fr)
 | _=>none
theorem zMC:OpD1 X.K (λxs H Q=>∃ p ys,xs=[.ref p]/\(SqL X.K H p ys\/SqT X.K H p ys)/\∀ l,H l=none->Q (.ref l) (upd H l (.lst ys))) zIc:=by
 intro S H x z vx Q sok e rx c;unfold zIc at e;split at e
 .cases e;obtain⟨a,vs,rfl,h1,h2⟩:=rx.lst;exact⟨a,vs,rfl,.inl h1,λp n=>c _ _ (zAQ n _) (.lstNew (Same.refl _) sok n h2)⟩
 .cases e;obtain⟨a,vs,rfl,h1,h2⟩:=rx.tup;exact⟨a,vs,rfl,.inr h1,λp n=>c _ _ (zAQ n _) (.lstNew (Same.refl _) sok n h2)⟩
 .cases e
theorem zUF {id:String}{k:Int->Int->Int}(hc:zEJ X (.builtin id) (λxs H Q=>∃ i j,xs=[.int i,.int j]/\Q (.int (k i j)) H))
  (h:∀ x y z,o x y=some z->∃ i j,x=.int i/\y=.int j/\z=(.int (k i j),.cl)) (hg:Gl X x) (hm:X.mg x=none) (hv:bootBuiltins x=some (.builtin id)) (ha:GE X e1 f) (hb:GE X e2 g)
  (he:starEach [e1,e2] X.env=(false,eval e1 X.env)::starEach [e2] X.env) (he2:starEach [e2] X.env=[(false,eval e2 X.env)]) (hn:x ≠ "__name__") (hdb:(x==("__debug__":Str))=false):GE X (.Call (.Name x p) [e1,e2] [] pos) (two f g o):=by
 refine(zFP hc hg hm hv (zAU ha (zAU hb zA1 he2) he) hn hdb he (by rw[he2];rfl)).imp λB H Q zz54=>?_
 obtain⟨S,G,z,ds,e,c⟩:=zz54;obtain⟨x,ex,e⟩:=bind_some e;obtain⟨y,ey,e⟩:=bind_some e;obtain⟨i,j,hx,hy,rfl⟩:=h _ _ _ e;refine⟨S,G,x,ds,ex,λvx H1 s1 r1=>⟨S,G,y,ds.mono s1,ey,λvy H2 s2 r2=>⟨i,j,?_,c _ H2 (s1.trans s2) (.int _)⟩⟩⟩;have q1:=r1.rd;have q2:=r2.rd;rw[hx] at q1;rw[hy] at q2;rw[q1.int,q2.int]
noncomputable def maxD (x y:D):Option R:=match x,y with
 | .int i,.int j=>some (.int (if j>i then j else i),.cl)
 | _,_=>none
inductive Ty where
 | int | bool | str | tuple | list
 deriving DecidableEq
noncomputable def Ty.nm:Ty->String
 | .int => "int" | .bool => "bool" | .str => "str" | .tuple => "tuple" | .list => "list"
noncomputable def isiD (t:Ty):D->Bool
 | .non=>false
 | .bl _=>t=.bool||t=.int
 | .int _=>t=.int
 | .str _=>t=.str
 | .tup _=>t=.tuple
 | .lst _=>t=.list
 | .exc _=>false
 | .dct _=>false
 | .lam _ _ _=>false
 | .obj _ _ _=>false
 | .fn _ _=>false
noncomputable def excB:D->Bool
 | .exc _=>true
 | .dct _=>true
 | .lam _ _ _=>true
 | .obj _ _ _=>true
 | .fn _ _=>true
 | _=>false
noncomputable def tyD:D->String
 | .non => "NoneType" | .bl _ => "bool" | .int _ => "int" | .str _ => "str" | .tup _ => "tuple" | .lst _ => "list" | .exc _ => "" | .dct _ => "" | .lam _ _ _ => "" | .obj _ _ _ => "" | .fn _ _ => ""
theorem zRv (K:W.Frag)(d:D)(t:Ty)(hd:excB d=false):W.kitOne K (.type (tyD d)) (.type t.nm)=some (isiD t d):=by
 cases d<;>cases t<;>first | rfl | decide +kernel | cases hd
theorem zNL (t:Ty):zEJ X (.builtin "isinstance") (λxs H Q=>∃ v d,xs=[v,.ty t.nm]/\Den X.K H d v/\excB d=false/\Q (.bl (isiD t d)) H):=by
 intro pins s B H xs us Q I r h;obtain⟨v,d,rfl,hd,hx,q⟩:=h;obtain⟨u,w',rfl,r1,r2⟩:=zOU r;cases r2;have k:=zRv X.K d t hx;have fin:∀ tk,EP X pins B Q _ { s with toks:=tk }:=λtk=>⟨.bl _,H,I.tok tk,rfl,q⟩
 cases d with
 | exc c=>cases hx
 | dct c=>cases hx
 | lam _ _ _=>cases hx
 | obj _ _ _=>cases hx
 | fn _ _=>cases hx
 | non=>rw[Den] at hd;subst hd;cases r1;exact W.kia_one W.kitx_none I.kIn True.intro k (λz=>nomatch z) fin
 | bl b=>rw[Den] at hd;subst hd;cases r1;exact W.kia_one W.kitx_bool I.kIn True.intro k (λz=>nomatch z) fin
 | int i=>rw[Den] at hd;subst hd;obtain⟨tt,rfl⟩:=r1;exact W.kia_one W.kitx_int I.kIn True.intro k (λz=>nomatch z) fin
 | str i=>rw[Den] at hd;subst hd;obtain⟨tt,rfl⟩:=r1;exact W.kia_one W.kitx_str I.kIn True.intro k (λz=>nomatch z) fin
 | tup ds =>
  obtain⟨a,vs,rfl,h1,h2⟩:=hd;cases r1;obtain⟨its,rv,⟨o,e1,e2,n,e3⟩,_⟩:=I.tuple h1;exact W.kia_one W.kitx_tuple I.kIn ⟨o,e1,e2⟩ k (λz=>nomatch z) fin
 | lst ds =>
  obtain⟨a,vs,rfl,h1,h2⟩:=hd;cases r1;obtain⟨its,rv,⟨o,n,e1,e2,_,e3⟩,_⟩:=I.list h1;exact W.kia_one W.kitx_list I.kIn ⟨o,e1,e2⟩ k (λz=>nomatch z) fin
noncomputable def isiF (t:Ty)(x:D):Option R:=if excB x=true then none else some (.bl (isiD t x),.cl)
theorem zQW (t:Ty):bootBuiltins (Str.ofString t.nm)=some (.type t.nm):=by cases t<;>decide +kernel
theorem zRY (t:Ty):(Str.ofString t.nm)≠("__name__":Str)/\((Str.ofString t.nm)==("__debug__":Str))=false:=by cases t<;>decide +kernel
theorem zSX (hg:Gl X "isinstance")(hm:X.mg "isinstance"=none)(hg2:Gl X (Str.ofString t.nm))(hm2:X.mg (Str.ofString t.nm)=none)(ha:GE X e f)
  (he:starEach [e,.Name (Str.ofString t.nm) p2] X.env=(false,eval e X.env)::starEach [.Name (Str.ofString t.nm) p2] X.env):GE X (.Call (.Name "isinstance" p) [e,.Name (Str.ofString t.nm) p2] [] pos) (one f (isiF t)):=by
 refine(zFP (zNL t) hg hm boot_isinstance (zAU ha (zAU (zOq hg2 hm2 (zQW t) (v:=.ty t.nm) rfl (zRY t).1 (zRY t).2) zA1 rfl) he) (by decide) (by decide) he rfl).imp λB H Q zz55=>?_
 obtain⟨S,G,z,ds,e,c⟩:=zz55;obtain⟨x,ex,e⟩:=bind_some e;unfold isiF at e;by_cases hx:excB x.1=true
 .rw [if_pos hx] at e;cases e
 .rw [if_neg hx] at e;cases e;exact⟨S,G,x,ds,ex,λvx H1 s1 r1=>⟨vx,x.1,rfl,r1.rd.whole,by simpa using hx,c _ H1 s1 (.bl _)⟩⟩
def spD (K:W.Frag)(F:List D->Option R):Sp:=λvs H Q _=>∃ S ds r,(∀ a∈S,∃ xs:HO,H a=some xs/\MuB xs)/\DenL K (hide H S) ds vs/\F ds=some r/\r.2≠.dt/\∀ v H',Same H H'->RV K H H' S r v->Q v H'
def spD0 (K:W.Frag)(F:List D->Option R):Sp:=λvs H Q _=>∃ ds r,DenL K H ds vs/\F ds=some r/\r.2≠.dt/\∀ v H',Same H H'->RV K H H' [] r v->Q v H'
noncomputable def zIp (F:List D->Option R)(g:Dst->Option (List D)):Dst->Option R:=λG=>(g G).bind λds=>(F ds).bind λr=>if r.2=.dt then none else some r
theorem zIB {F:List D->Option R}{g:Dst->Option (List D)}{B:St}{H:Hp}{Q:VK}(q:gT X.K (zIp F g) B H Q):zLw (spD X.K F) [] E0 (gA X.K g) B H Q:=by
 obtain⟨S,G,z,ds,e,c⟩:=q;obtain⟨xs,ex,e⟩:=bind_some e;obtain⟨r,er,e⟩:=bind_some e;by_cases hr:r.2=.dt
 .rw [if_pos hr] at e;cases e
 rw[if_neg hr] at e;cases e;refine⟨S,G,xs,ds,ex,λvs H1 s1 r1=>?_⟩;show spD X.K F (vs++[]) H1 Q E0;rw[append_nil];exact⟨S,xs,_,(ds.mono s1).sok,r1,er,hr,λv H' s2 r2=>c v H' (s1.trans s2) (r2.from s1)⟩
theorem zPr {k:Nat}{f:Addr}{fd:FuncData}{ps:List Str}{F:List D->Option R}{x:Str}{p pos:Pos}{e:Expr}{es:List Expr}{g:Dst->Option (List D)}(FO:FnOk X.prog X.w X.K X.mg X.base CX0 k f fd ps (spD X.K F))(hr:Room k X.A)(hg:Gl X x)(hm:X.mg x=some (.ref f))
  (hk:W.keepIn X.K (.ref f)=true) (hb:zBA X.K fd ps []) (ha:GA X (e::es) g) (hdb:(x==("__debug__":Str))=false) (he:starEach (e::es) X.env=(false,eval e X.env)::starEach es X.env) (hpl:∀ pos,(backTo pos (starEach es X.env)).any (·.1)=false) :
  GE X (.Call (.Name x p) (e::es) [] pos) (zIp F g) :=
 (zJb FO hr hg hm hk hb .nil zGp ha hdb he (hpl pos)).imp λ_ _ _ q=>zIB q
theorem zMn (FO:FnOk X.prog X.w X.K X.mg X.base CX0 k f fd ps (spD X.K F))(hr:Room k X.A)(hg:Gl X x)(hm:X.mg x=some (.ref f))
  (hk:W.keepIn X.K (.ref f)=true) (hb:zBA X.K fd ps []) (hdb:(x==("__debug__":Str))=false):GE X (.Call (.Name x p) [] [] pos) (zIp F λ_=>some []):=by
 refine(zMB FO hr hg hm hk hb .nil zGp hdb).imp λB H Q q=>?_
 obtain⟨S,G,z,ds,e,c⟩:=zIB q;cases e;exact c [] H (Same.refl _) .nil
def gAL (K:W.Frag)(f:Dst->Option (List D)):TA:=λB H Q=>∃ S G ds,DS K H S B G/\f G=some ds/\∀ vs H',Same H H'->DenL K H' ds vs->Q vs H'
def GAL (X:Cx)(es:List Expr)(f:Dst->Option (List D)):Prop:=PA X es (gAL X.K f)
theorem zPw:GAL X [] (λ_=>some []):=zA1.imp λB H Q zz56=>by
 obtain⟨S,G,z,ds,e,c⟩:=zz56;cases e;exact c [] H (Same.refl _) .nil
noncomputable def zTA (f:Dst->Option R)(g:Dst->Option (List D)):Dst->Option (List D):=λG=>(f G).bind λx=>(g G).bind λxs=>some (x.1::xs)
theorem zMp (ha:GE X e f)(hr:GAL X es g)(hs:starEach (e::es) X.env=(false,eval e X.env)::starEach es X.env):GAL X (e::es) (zTA f g):=by
 refine(zAU ha hr hs).imp λB H Q zz57=>?_
 obtain⟨S,G,z,ds,e,c⟩:=zz57;obtain⟨x,ex,e⟩:=bind_some e;obtain⟨xs,exs,e⟩:=bind_some e;cases e;refine⟨S,G,x,ds,ex,λv H1 s1 r1=>⟨S,G,xs,ds.mono s1,exs,λvs H2 s2 r2=>?_⟩⟩;exact c _ H2 (s1.trans s2) (.cons (r1.rd.whole.mono s2) r2)
theorem zD2 {K:W.Frag}(e0:Env0 P w K mg base A outer s H)(hS:∀ a∈S,∃ xs:HO,H a=some xs/\MuB xs)(hk:r.2≠.dt)
  (run:Env0 P w K mg base A outer s (hide H S)->codeAny (model P w) A cd (CR CX0 outer P w (hide H S) s (λv H2=>RV K (hide H S) H2 [] r v/\Same (hide H S) H2) E) s) (c:∀ v H',Same H H'->RV K H H' S r v->Q v H'):codeAny (model P w) A cd (CR CX0 outer P w H s Q E) s:=by
 have inS:∀ {b:Addr} {o:HO},b∈S->H b=some o->MuB o:=λ{b o} z e=>by
  obtain⟨xs,q,mu⟩:=hS b z;rw[q] at e;cases e;exact mu
 have hok:HOk P w (hide H S) s.heap:=λb o e=>by
  obtain⟨nb,e'⟩:=zAs e;refine(e0.hok b o e').stay (λc u _ q=>q) (λc q=>?_) (λc xs q=>?_) λc ob u q _=>?_
  .rw [zAL λz=>?_]
   .exact q
   .exact (inS z q).elim
  .rw [zAL λz=>?_]
   .exact q
   .exact (inS z q).elim
  .rw [zAL λz=>?_]
   .exact q
   .exact (inS z q).elim
 have none_of:∀ {b:Addr},H b=none->hide H S b=none:=λ{b} q=>by
  by_cases z:b∈S
  .exact zBz z
  .rw [zAL z];exact q
 have e1:Env0 P w K mg base A outer s (hide H S):=⟨e0.frames,e0.mod,λb o e=>⟨(e0.bs b o e).1,none_of (e0.bs b o e).2⟩,e0.bsz,e0.funs,λb z=>none_of (e0.frf b z),hok,e0.bare,e0.tree,λx hx c P e=>by
  have q:=e0.tabs x hx c P e;rw[zAL λz=>(inS z q).elim];exact q⟩
 refine codeAny_mono (run e1) λres s' h=>?_
 cases res with
 | error e=>exact h.elim
 | ok fl =>
  cases fl with
  | next=>exact h
  | brk=>exact h
  | cont=>exact h
  | ret u =>
   obtain⟨v,H2,os,bare,un,hok2,rv2,r2,s2⟩:=h;have there:∀ {b:Addr},b∈S->∃ ob xs,s.heap.get? b=some ob/\s'.heap.get? b=some ob/\H2 b=none/\H b=some xs/\MuB xs/\zCP P w H s.heap b xs:=λ{b} z=>by
    obtain⟨xs,q,mu⟩:=hS b z;have ok:=e0.hok b _ q;obtain⟨ob,e⟩:∃ ob,s.heap.get? b=some ob:=by
     cases xs with
     | lst ys=>obtain⟨z1,its,n,r1,e⟩:=id ok;exact⟨_,e⟩
     | dT kvs=>obtain⟨_,_,_,_,ob,_,_,e,_⟩:=id ok;exact⟨ob,e⟩
     | _=>exact mu.elim
    exact⟨ob,xs,e,un.keep b _ e (zBz z) (λz2=>by rw[e0.frf b z2] at q;cases q) (by simp),un.free b _ e (zBz z) (by simp),q,mu,ok⟩
   have out:∀ {b:Addr} {o:HO},H2 b=some o->b∉S:=λ{b o} e z=>by
    obtain⟨_,_,_,_,q,_⟩:=there z;rw[q] at e;cases e
   obtain⟨H',h'in,h'out⟩:∃ H':Hp,(∀ {b:Addr},b∈S->H' b=H b)/\(∀ {b:Addr},b∉S->H' b=H2 b):=⟨λb=>if b∈S then H b else H2 b,λz=>if_pos z,λz=>if_neg z⟩;have sH:Same H H':=λb o e=>by
    by_cases z:b∈S
    .rw [h'in z];exact e
    .rw [h'out z];exact s2 b o (by rw[zAL z];exact e)
   have sub:Same H2 (hide H' S):=λb o e=>by
    rw[zAL (out e),h'out (out e)];exact e
   refine⟨v,H',os,bare,⟨λb o e n=>un.keep b o e (none_of n),λb o e n=>un.slot b o e (none_of n),λb o e n hx=>?_,un.there,λb xs e=>?_,λb o u e=>?_,λb ps e=>?_⟩,λb o e=>?_,rv2,c v H' sH ?_⟩
   .by_cases z:b∈S
    .rw [h'in z];exact n
    .rw [h'out z];exact un.free b o e (none_of n) hx
   .exact sH b _ e
   .exact sH b _ e
   .exact sH b _ e
   .by_cases z:b∈S
    .rw [h'in z] at e;obtain⟨ob,xs,g1,g2,_,g4,mu,ok⟩:=there z;rw[g4] at e;cases e;cases o with
     | lst ys =>
      obtain⟨z1,its,n,r1,e⟩:=ok;rw[g1] at e;cases e;exact⟨z1,its,n,r1,g2⟩
     | dT kvs =>
      obtain⟨z1,z2,xs,r1,ob',es,ep,e,rest⟩:=ok;rw[g1] at e;cases e;exact⟨z1,z2,xs,Paired.mapP r1 λp q z=>⟨z.1,sH _ _ z.2.1,z.2.2⟩,ob,es,ep,g2,rest⟩
     | _=>exact mu.elim
    .rw [h'out z] at e;exact(hok2 b o e).stay (λc u _ q=>q) (λc q=>by rw[h'out (out q)];exact q) (λc xs q=>by rw[h'out (out q)];exact q) λc ob u q _=>by rw[h'out (out q)];exact q
   .obtain ⟨d,kd⟩:=r;cases kd with
    | cl =>
     have q:Den K (hide H2 []) d v:=r2;rw[zBy] at q;exact q.mono sub
    | fr =>
     obtain⟨a,ws,es,ev,ed,_,na,ha,t⟩:=r2;have aS:a∉S:=out ha;refine⟨a,ws,es,ev,ed,aS,by rw[zAL aS] at na;exact na,by rw[h'out aS];exact ha,t.mono λb o e=>?_⟩;obtain⟨q1,q2⟩:=zAs e;have nb:b∉a::S:=λz=>(mem_cons.mp z).elim (λz=>q1 (by rw[z];exact xq)) (out q2)
     rw[zAL nb,h'out (out q2)];exact q2
    | dt=>exact absurd rfl hk
theorem FnOk.framed {K:W.Frag}(G:FnOk P w K mg base CX0 k f fd ps (spD0 K F)):FnOk P w K mg base CX0 k f fd ps (spD K F):=by
 refine⟨λvs H Q E h=>?_,λA outer s H args us vs Q E hr e0 hb rv h=>?_⟩
 .obtain ⟨S,ds,r,hS,hd,hF,hk,c⟩:=h;exact G.len vs _ _ E ⟨ds,r,hd,hF,hk,λ_ _ _ _=>trivial⟩
 obtain⟨S,ds,r,hS,hd,hF,hk,c⟩:=h;exact zD2 e0 hS hk (λe1=>G.run A outer s _ args us vs _ E hr e1 hb rv ⟨ds,r,hd,hF,hk,λv H' s1 r1=>⟨r1,s1⟩⟩) c
end
inductive Out where
 | nx (G:Dst) | rt (r:R) | bk (G:Dst) | ct (G:Dst)
def Post (K:W.Frag)(H0:Hp)(o:Out)(E:Ends):Prop:=match o with
 | .nx G'=>∀ S' B' H',DS K H' S' B' G'->Same H0 (hide H' S')->E.nx B' H'
 | .bk G'=>∀ S' B' H',DS K H' S' B' G'->Same H0 (hide H' S')->E.bk B' H'
 | .ct G'=>∀ S' B' H',DS K H' S' B' G'->Same H0 (hide H' S')->E.ct B' H'
 | .rt r=>r.2≠.dt/\∀ v H',Same H0 H'->RV K H0 H' [] r v->E.rt v H'
def gS (K:W.Frag)(H0:Hp)(g:Dst->Option Out):TS:=λE B H=>∃ S G o,DS K H S B G/\Same H0 (hide H S)/\g G=some o/\Post K H0 o E
def GS (X:Cx)(st:Stmt)(g:Dst->Option Out):Prop:=∀ H0,PS X st (gS X.K H0 g)
def GSs (X:Cx)(st:List Stmt)(g:Dst->Option Out):Prop:=∀ H0,PSs X st (gS X.K H0 g)
theorem _root_.L2.PS.imp {st:Stmt}(h:PS X st t)(i:∀ E B H,t' E B H->t E B H):PS X st t':=λpins s B H E I q=>h pins s B H E I (i E B H q)
theorem _root_.L2.PSs.imp {st:List Stmt}(h:PSs X st t)(i:∀ E B H,t' E B H->t E B H):PSs X st t':=λpins s B H E I q=>h pins s B H E I (i E B H q)
section
variable {X:Cx}
noncomputable def seqD (f g:Dst->Option Out):Dst->Option Out:=λG=>(f G).bind λo=>match o with
 | .nx G'=>g G'
 | o=>some o
theorem zPZ:GSs X [] (λG=>some (.nx G)):=λH0=>zGk.imp λE B H zz58=>by
 obtain⟨S,G,o,ds,h0,e,p⟩:=zz58;cases e;exact p S B H ds h0
theorem zMf {st:Stmt}(h1:GS X st f)(h2:GSs X rest g):GSs X (st::rest) (seqD f g):=λH0=>(zFK (h1 H0) (h2 H0)).imp λE B H zz59=>by
 obtain⟨S,G,o,ds,h0,e,p⟩:=zz59;obtain⟨o1,e1,e⟩:=bind_some e;refine⟨S,G,o1,ds,h0,e1,?_⟩;cases o1 with
 | nx G'=>exact λS' B' H' d' s'=>⟨S',G',o,d',s',e,p⟩
 | rt r=>cases e;exact p
 | bk G'=>cases e;exact p
 | ct G'=>cases e;exact p
theorem zPY (hf:∀ G o,f G=some o->∃ G',o=.nx G'/\∀ K H S B,DS K H S B G->∃ S',(∀ b∈S',b∈S)/\DS K H S' B G')(h2:GSs X rest g):GSs X rest (seqD f g):=λH0=>(h2 H0).imp λE B H zz60=>by
 obtain⟨S,G,o,ds,h0,e,p⟩:=zz60;obtain⟨o1,e1,e⟩:=bind_some e;obtain⟨G',rfl,k⟩:=hf G o1 e1;obtain⟨S',sub,d'⟩:=k _ H S B ds;exact⟨S',G',o,d',h0.trans (zBn sub),e,p⟩
theorem zS0 {K:W.Frag}(ds:DS K H S B G)(h0:Same H0 (hide H S))(s1:Same H H')(p:Post K H0 (.nx G) E):E.nx B H' :=
 p S B H' (ds.mono s1) (h0.trans (zAM s1))
noncomputable def retD (f:Dst->Option R):Dst->Option Out:=λG=>(f G).bind λr=>if r.2=.dt then none else some (.rt r)
theorem RV.up {K:W.Frag}(h0:Same H0 (hide H S))(s1:Same H H')(hr:r.2≠.dt)(h:RV K H H' S r v):Same H0 H'/\RV K H0 H' [] r v:=by
 refine⟨h0.trans (zAa.trans s1),?_⟩;obtain⟨d,k⟩:=r;cases k with
 | cl =>
  exact Den.mono zAa h
 | fr =>
  obtain⟨a,vs,ds,e1,e2,e3,e4,e5,t⟩:=h;refine⟨a,vs,ds,e1,e2,by simp,?_,e5,t.mono (zBn λb z=>by
   have:b=a:=by simpa using z
   rw[this];exact xq)⟩
  cases q:H0 a with
  | none=>rfl
  | some o =>
   have:=(zAs (h0 a o q)).2;grind
 | dt=>exact absurd rfl hr
theorem zSC (h:GE X e f):GS X (.Return (some e) pos) (retD f):=λH0=>(zJW h).imp λE B H zz61=>by
 obtain⟨S,G,o,ds,h0,e,p⟩:=zz61;obtain⟨r,er,e⟩:=bind_some e;by_cases hr:r.2=.dt
 .rw [if_pos hr] at e;cases e
 rw[if_neg hr] at e;cases e;refine⟨S,G,r,ds,er,λv H' s1 r1=>?_⟩;obtain⟨q1,q2⟩:=RV.up h0 s1 hr r1;exact p.2 v H' q1 q2
noncomputable def zDn (i:Nat):Dst->Option Out:=λG=>match G[i]? with
 | some (some (.lst d,true))=>some (.rt (.lst d,.fr))
 | _=>none
theorem zKS (hN:X.N[i]?=some x)(hv:Vis X.env.scope x)(hd:(x==("__debug__":Str))=false)(hcd:(x==("__classdict__":Str))=false):GS X (.Return (some (.Name x pos')) pos) (zDn i):=λH0=>(zJW (zC0 hN hv hd hcd)).imp λE B H zz62=>by
 obtain⟨S,G,o,ds,h0,e,p⟩:=zz62;unfold zDn at e;split at e
 .rename_i d q;cases e;obtain⟨v,q1,q2⟩:=ds.get i _ true q;obtain⟨a,vs,es,rfl,e2,w1,w2,w3⟩:=q2.ownL rfl;refine⟨.ref a,q1,p.2 _ H (h0.trans zAa) ⟨a,vs,es,rfl,e2,by simp,?_,w2,w3.mono (zBn λb z=>by
   have:b=a:=by simpa using z
   rw[this];exact w1)⟩⟩
  cases q:H0 a with
  | none=>rfl
  | some o=>exact absurd w1 (zAs (h0 a o q)).1
 .cases e
theorem zHo {st:Stmt}:GS X st (λ_=>none):=λH0=>(zFL (X:=X) (st:=st)).imp λE B H zy136=>by obtain⟨S,G,o,ds,h0,e,p⟩:=zy136;cases e
noncomputable def setD (i:Nat)(f:Dst->Option R):Dst->Option Out:=λG=>(f G).bind λr=>match r.2 with
 | .cl=>some (.nx (G.set i (some (r.1,false))))
 | .fr=>some (.nx (G.set i (some (r.1,true))))
 | .dt=>none
theorem zEP {K:W.Frag}(ds:DS K H S B G)(h0:Same H0 (hide H S))(s1:Same H H')(r1:RV K H H' S r v)
  (e:(match r.2 with | .cl=>some (Out.nx (G.set i (some (r.1,false)))) | .fr=>some (Out.nx (G.set i (some (r.1,true)))) | .dt=>none)=some o) (p:Post K H0 o E):E.nx (B.set i (some v)) H':=by
 obtain⟨d,k⟩:=r;cases k with
 | cl =>
  cases e;exact p S _ H' ((ds.mono s1).set r1) (h0.trans (zAM s1))
 | fr =>
  cases e;obtain⟨a,vs,es,rfl,rfl,e3,e4,e5,t⟩:=r1;exact p (a::S) _ H' (ds.setF s1 e4 e5 t) (h0.trans (zDf s1 e4))
 | dt=>cases e
theorem zN7 (hN:X.N.Nodup)(hi:X.N[i]?=some x)(hx:Loc X.env.scope x)(h:GE X e f)(hs:swapsWith e (some (.Name x pos')) pos.line X.env=pure false)(hf:X.fn x=true\/X.env.scope.names.lookup x=some .local) :
  GS X (.Assign [.Name x pos'] e pos) (setD i f):=λH0=>(zNm hN hi hx h hs hf).imp λE B H zz63=>by
 obtain⟨S,G,o,ds,h0,e,p⟩:=zz63;obtain⟨r,er,e⟩:=bind_some e;exact⟨S,G,r,ds,er,λv H' s1 r1=>zEP ds h0 s1 r1 e p⟩
noncomputable def appD (i:Nat)(f:Dst->Option R):Dst->Option Out:=λG=>match G[i]? with
 | some (some (.lst xs,true))=>(f G).bind λr=>if r.2=.dt then none else if xs.length<=10000 then some (.nx (G.set i (some (.lst (xs++[r.1]),true)))) else none
 | _=>none
theorem zSG (hi:X.N[i]?=some x)(hv:Vis X.env.scope x)(hd:(x==("__debug__":Str))=false)(hcd:(x==("__classdict__":Str))=false)(h:GE X e f)
  (he:starEach [e] X.env=[(false,eval e X.env)]) (hbase:attributeBase (.Name x npos) "append" X.env (eval (.Name x npos) X.env)=eval (.Name x npos) X.env) (hline:(apos.endLine==cpos.line)=true) :
  GS X (.Expr (.Call (.Attribute (.Name x npos) "append" apos) [e] [] cpos) pos) (appD i f):=λH0=>(zGl (zOp PySem.F.plainAttrs_list PySem.F.slot_list_append PySem.F.type_list_append zF4 (zC0 hi hv hd hcd) (zAU h zA1 he) hbase (by rw[he];rfl) hline he rfl) rfl).imp λE B H zz64=>by
 obtain⟨S,G,o,ds,h0,e,p⟩:=zz64;unfold appD at e;split at e
 .rename_i xs q;obtain⟨r,er,e⟩:=bind_some e;by_cases hr:r.2=.dt
  .rw [if_pos hr] at e;cases e
  rw[if_neg hr] at e;by_cases hl:xs.length<=10000
  .rw [if_pos hl] at e;cases e;obtain⟨v,q1,q2⟩:=ds.get i _ true q;obtain⟨a,vs,es,rfl,e2,w1,w2,w3⟩:=q2.ownL rfl;cases e2;refine⟨.ref a,q1,.inl ⟨rfl,_,SqL.of w2⟩,S,G,r,ds,er,λy H1 s1 r1=>?_⟩;have hy:Den X.K (hide H1 S) r.1 y:=RV.den (d:=r.1) (k:=r.2) r1 hr;have w3':=w3.mono (zAM s1 (S:=S));refine⟨a,vs,y,rfl,rfl,s1 _ _ w2,by rw[<- w3.length];exact Nat.lt_of_le_of_lt hl (by decide),?_⟩;have t:DenL X.K (hide H1 S) (xs++[r.1]) (vs++[y]):=w3'.append (.cons hy .nil);have d2:=(ds.mono s1).change (i:=i) q q1 t;refine p S B _ d2 ?_;rw[zFW w1];exact h0.trans (zAM s1)
  .rw [if_neg hl] at e;cases e
 .cases e
noncomputable def ifD (c:Dst->Option Bool)(f g:Dst->Option Out):Dst->Option Out:=λG=>(c G).bind λb=>if b=true then f G else g G
theorem zT5 (hc:GT X c k)(ha:GSs X a f)(hb:GSs X b g):GS X (.If c a b pos) (ifD k f g):=λH0=>(zQ7 hc (ha H0) (hb H0)).imp λE B H zz65=>by
 obtain⟨S,G,o,ds,h0,e,p⟩:=zz65;obtain⟨b,eb,e⟩:=bind_some e;refine⟨S,G,b,ds,eb,λH1 s1=>?_⟩;cases b with
 | true =>
  rw[if_pos rfl] at e ⊢;exact⟨S,G,o,ds.mono s1,h0.trans (zAM s1),e,p⟩
 | false =>
  rw[if_neg qY] at e ⊢;exact⟨S,G,o,ds.mono s1,h0.trans (zAM s1),e,p⟩
noncomputable def zBj (c:Dst->Option Bool)(b:Dst->Option Out):Nat->Dst->Option Out
 | 0,_=>none
 | n+1,G=>(c G).bind λk=>if k=true then (b G).bind λo=>(match o with
   | .nx G'=>zBj c b n G'
   | .ct G'=>zBj c b n G'
   | .bk G'=>some (.nx G')
   | .rt r=>some (.rt r)) else some (.nx G)
theorem zCi :∀ {n:Nat} {G:Dst} {o:Out},zBj c b n G=some o->zBj c b (n+1) G=some o
 | 0,_,_,h=>by cases h
 | n+1,G,o,h=>by
  obtain⟨k,ek,h⟩:=bind_some h;show (c G).bind _=some o;rw[ek];cases k with
  | false =>
   rw[if_neg qY] at h;rw[qx,if_neg qY];exact h
  | true =>
   rw[if_pos rfl] at h;rw[qx,if_pos rfl];obtain⟨o1,e1,h⟩:=bind_some h;rw[e1];cases o1 with
   | nx G'=>exact zCi (n:=n) h
   | ct G'=>exact zCi (n:=n) h
   | bk G'=>exact h
   | rt r=>exact h
theorem zDk (h:zBj c b n G=some o)(l:n<=m):zBj c b m G=some o:=by
 induction m with
 | zero =>
      have:n=0:=by omega
      grind
 | succ m ih =>
  by_cases q:n<=m
  .exact zCi (ih q)
  .grind
open Classical in
def zBH (c:Dst->Option Bool)(b:Dst->Option Out)(G:Dst):Option Out :=
 if h:∃ n o,zBj c b n G=some o then some (Classical.choose (choose_spec h)) else none
theorem zCC (h:zBj c b n G=some o):zBH c b G=some o:=by
 have ex:∃ n o,zBj c b n G=some o:=⟨n,o,h⟩;unfold zBH;rw[dif_pos ex];have q2:=zDk h (Nat.le_max_right (Classical.choose ex) n);rw[zDk (choose_spec (choose_spec ex)) (Nat.le_max_left _ n)] at q2;omega
theorem zC7 (h:zBH c b G=some o):∃ n,zBj c b n G=some o:=by
 unfold zBH at h;by_cases ex:∃ n o,zBj c b n G=some o
 .grind
 .grind
theorem zMh (hp:PassesOwn (model X.prog X.w) X.A X.env X.xe)(hc:GT X c k)(hb:GSs X body f):GS X (.While c body [] pos) (zBH k f):=λH0=>(zL6 hp hc (hb H0)).imp λE B H zz66=>by
 obtain⟨S,G,o,ds,h0,e,p⟩:=zz66;obtain⟨n,en⟩:=zC7 e;refine⟨λm B H=>∃ S G,DS X.K H S B G/\Same H0 (hide H S)/\zBj k f m G=some o,⟨n,S,G,ds,h0,en⟩,?_⟩;rintro m B H ⟨S,G,ds,h0,en⟩;cases m with
 | zero=>cases en
 | succ m =>
  obtain⟨b,eb,en⟩:=bind_some en;refine⟨S,G,b,ds,eb,λH1 s1=>?_⟩;cases b with
  | false =>
   rw[if_neg qY] at en ⊢;cases en;exact zS0 ds h0 s1 p
  | true =>
   rw[if_pos rfl] at en ⊢;obtain⟨o1,e1,en⟩:=bind_some en;refine⟨λB' H'=>∃ S G,DS X.K H' S B' G/\Same H0 (hide H' S)/\zBj k f m G=some o,λB' H' q=>⟨m,Nat.lt_succ_self m,q⟩,S,G,o1,ds.mono s1,h0.trans (zAM s1),e1,?_⟩;cases o1 with
   | nx G'=>exact λS' B' H' d' q'=>⟨S',G',d',q',en⟩
   | ct G'=>exact λS' B' H' d' q'=>⟨S',G',d',q',en⟩
   | bk G'=>cases en;exact p
   | rt r=>cases en;exact p
noncomputable def forD (t:D->Dst->Option Dst)(b:Dst->Option Out):List D->Dst->Option Out
 | [],G=>some (.nx G)
 | x::xs,G=>(t x G).bind λO5=>(b O5).bind λo=>match o with
  | .nx G'=>forD t b xs G'
  | .ct G'=>forD t b xs G'
  | .bk G'=>some (.nx G')
  | .rt r=>some (.rt r)
def GG (X:Cx)(tg:Expr)(t:D->Dst->Option Dst):Prop:=∃ g,PG X tg g/\∀ (K:W.Frag),K=X.K->∀ (x:D) (v:V) (B:St) (H:Hp) (S:List Addr) (G G':Dst) (Q:St->Hp->Prop),DS K H S B G->Den K (hide H S) x v->t x G=some G'->(∀ B',DS K H S B' G'->Q B' H)->g v B H Q
theorem zKX (hN:X.N.Nodup)(hi:X.N[i]?=some x)(hx:Loc X.env.scope x)(hf:X.fn x=true\/X.env.scope.names.lookup x=some .local):GG X (.Name x pos) (λd G=>some (G.set i (some (d,false)))) :=
 ⟨_,zFN hN hi hx hf,λK hK x v B H S G G' Q ds hv e q=>by
  cases e;exact q _ (ds.set hv)⟩
noncomputable def tg2 (i j:Nat):D->Dst->Option Dst:=λd G=>match d with
 | .tup [a,b]=>some ((G.set i (some (a,false))).set j (some (b,false)))
 | _=>none
def GI (X:Cx)(tg iter:Expr)(f:Dst->Option (List D)):Prop:=∃ wi,PI X tg iter wi/\∀ (B:St) (H:Hp) (S:List Addr) (G:Dst) (xs:List D) (Rr:It->Hp->Prop),DS X.K H S B G->f G=some xs ->
 (∀ J H1,Same H H1->(∀ (i:Nat) H2,i<=xs.length->Same (hide H1 S) H2->(i=xs.length->J.stop i H2)/\(i < xs.length->J.go i H2/\∀ v H3,J.yld i H2 v H3->H3=H2/\∀ x,xs[i]?=some x->Den X.K (hide H1 S) x v))->Rr J H1)->wi B H Rr
theorem zSD (hp:PassesOwn (model X.prog X.w) X.A X.env X.xe)(hc:X.calm=true)(hi:GI X tg iter f)(hg:GG X tg t)(hb:GSs X body b)
  (hs:∀ x,foldedSetIterable iter X.env x=pure x):GS X (.For tg iter body [] pos) (λG=>(f G).bind λxs=>forD t b xs G):=by
 intro H0;obtain⟨wi,hwi,hI⟩:=hi;obtain⟨g,hg,hG⟩:=hg;intro pins s B H E I ⟨S,G,o,ds,h0,e,p⟩;obtain⟨xs,ex,e⟩:=bind_some e;refine(zNn (tb:=λE B H2=>∃ H1,gS X.K (hide H1 S) b E B H2/\Same (hide H1 S) (hide H1 S)) hp hc hwi hg ?_ hs) pins s B H E I ?_
 .intro pins s B H E I ⟨H1,q,_⟩;exact hb (hide H1 S) pins s B H E I q
 refine hI B H S G xs _ ds ex λJ H1 s1 hJ=>?_
 refine⟨λi m B' H2=>i<=xs.length/\m=xs.length - i/\∃ S' G',DS X.K H2 S' B' G'/\Same (hide H1 S) (hide H2 S')/\forD t b (xs.drop i) G'=some o,⟨xs.length,zero_le _,by omega,S,G,ds.mono s1,Same.refl _,e⟩,?_⟩;rintro i m B' H2 ⟨hi,rfl,S',G',ds',k',e'⟩;have kH:Same H0 (hide H1 S):=h0.trans (zAM s1);obtain⟨j1,j2⟩:=hJ i H2 hi (k'.trans zAa);by_cases hlt:i < xs.length
 .obtain ⟨go,yl⟩:=j2 hlt;have hd:xs.drop i=xs[i]::xs.drop (i+1):=List.drop_eq_getElem_cons hlt;rw[hd] at e';obtain⟨O5,e1,e'⟩:=bind_some e';obtain⟨o1,e2,e'⟩:=bind_some e';refine .inr ⟨go,λB3 H3=>∃ S' G',DS X.K H3 S' B3 G'/\Same (hide H1 S) (hide H3 S')/\forD t b (xs.drop (i+1)) G'=some o,λB3 H3 q=>⟨xs.length - (i+1),by omega,hlt,rfl,q⟩,λv H3 y=>?_⟩;obtain⟨rfl,hv⟩:=yl v H3 y;refine hG X.K rfl xs[i] v B' H3 S' G' O5 _ ds' ((hv _ (by simp[hlt])).mono k') e1 λB4 ds4=>⟨H1,⟨S',O5,o1,ds4,k',e2,?_⟩,Same.refl _⟩
  cases o1 with
  | nx Z2=>exact λS2 Y3 H4 d2 q2=>⟨S2,Z2,d2,q2,e'⟩
  | ct Z2=>exact λS2 Y3 H4 d2 q2=>⟨S2,Z2,d2,q2,e'⟩
  | bk Z2 =>
   cases e';exact λS2 Y3 H4 d2 q2=>p S2 Y3 H4 d2 (kH.trans q2)
  | rt r =>
   cases e';refine⟨p.1,λv H4 q1 q2=>p.2 v H4 (kH.trans q1) (q2.from kH)⟩
 .have ei:i=xs.length:=by omega
  subst ei;rw[drop_eq_nil_of_le (le_refl _)] at e';cases e';exact .inl ⟨j1 rfl,p S' B' H2 ds' (kH.trans k')⟩
noncomputable def rngL (lo:Int)(n:Nat):List D:=(List.range n).map λ(k:Nat)=>D.int (lo+k)
theorem zFx {K:W.Frag}{lo:Int}(i:Nat)(H2:Hp)(hi:i<=(rngL lo n).length):(i=(rngL lo n).length->(Itr lo n).stop i H2)/\(i < (rngL lo n).length->(Itr lo n).go i H2/\∀ v H3,(Itr lo n).yld i H2 v H3->H3=H2/\∀ x,(rngL lo n)[i]?=some x->Den K (hide H1 S) x v):=by
 have hl:(rngL lo n).length=n:=by unfold rngL;simp
 refine⟨λe=>by rw[hl] at e;exact Nat.le_of_eq e.symm,λh=>⟨by rw[hl] at h;exact h,λv H3 y=>⟨y.1,λx ex=>?_⟩⟩⟩;rw[hl] at h;have:(rngL lo n)[i]?=some (D.int (lo+i)):=by unfold rngL;simp[h]
 rw[this] at ex;cases ex;exact y.2
noncomputable def zJN (f:Dst->Option R):Dst->Option (List D):=λG=>match f G with
 | some (.int j,_)=>if -(2^62)<=j/\j < 2^62 then some (rngL 0 j.toNat) else none
 | _=>none
theorem zKW (hg:Gl X "range")(hm:X.mg "range"=none)(h:GE X a f)(hs:starEach [a] X.env=[(false,eval a X.env)]):GI X tg (.Call (.Name "range" p) [a] [] pos) (zJN f):=by
 refine⟨_,zFy hg hm (zAU h zA1 hs) hs,λB H S G xs Rr ds e q=>?_⟩;unfold zJN at e;split at e
 .rename_i j k ej;by_cases hj:-2^62<=j/\j < 2^62
  .rw [if_pos hj] at e;cases e;exact⟨S,G,_,ds,ej,λv H1 s1 r1=>⟨j,by rw[r1.rd.int],hj.1,hj.2,q _ H1 s1 λi H2 hi _=>zFx i H2 hi⟩⟩
  .simp_all
 .cases e
noncomputable def zL1 (f g:Dst->Option R):Dst->Option (List D):=λG=>match f G,g G with
 | some (.int i,_),some (.int j,_)=>if (-(2^62)<=i/\i < 2^62)/\-(2^62)<=j/\j < 2^62 then some (rngL i (j - i).toNat) else none
 | _,_=>none
theorem zKV (hg:Gl X "range")(hm:X.mg "range"=none)(ha:GE X a f)(hb:GE X b g)(hs:starEach [a,b] X.env=(false,eval a X.env)::starEach [b] X.env)(hs2:starEach [b] X.env=[(false,eval b X.env)]):GI X tg (.Call (.Name "range" p) [a,b] [] pos) (zL1 f g):=by
 refine⟨_,zJa hg hm (zAU ha (zAU hb zA1 hs2) hs) (by simp_all) hs2,λB H S G xs Rr ds e q=>?_⟩;unfold zL1 at e;split at e
 .rename_i i k j k2 ei ej;by_cases hj:(-2^62<=i/\i < 2^62)/\-(2^62)<=j/\j < 2^62
  .rw [if_pos hj] at e;cases e;exact⟨S,G,_,ds,ei,λv H1 s1 r1=>⟨S,G,_,ds.mono s1,ej,λu H2 s2 r2=>⟨i,j,by rw[r1.rd.int,r2.rd.int],⟨hj.1.1,hj.1.2,hj.2.1,hj.2.2⟩,q _ H2 (s1.trans s2) λi H2 hi _=>zFx i H2 hi⟩⟩⟩
  .rw [if_neg hj] at e;cases e
 .cases e
noncomputable def frzD (i:Nat):Dst->Option Out:=λG=>match G[i]? with
 | some (some (d,true))=>some (.nx (G.set i (some (d,false))))
 | _=>some (.nx G)
theorem zSh :∀ G o,frzD i G=some o->∃ G',o=.nx G'/\∀ K H S B,DS K H S B G->∃ S',(∀ b∈S',b∈S)/\DS K H S' B G':=λG o e=>by
 unfold frzD at e;split at e
 .rename_i d q;cases e;exact⟨_,rfl,λK H S B ds=>ds.freeze q⟩
 .cases e;exact⟨_,rfl,λK H S B ds=>⟨S,λ_ z=>z,ds⟩⟩
noncomputable def dFun (np nN:Nat)(g:Dst->Option Out)(ds:List D):Option R :=
 if ds.length=np/\np<=nN then (g (ds.map (λd=>some (d,false))++List.replicate (nN - np) none)).bind λo=>match o with
  | .rt r=>some r
  | .nx _=>some (.non,.cl)
  | _=>none
 else none
theorem zNC {K:W.Frag}(h:DenL K H ds vs)(hl:ds.length<=N.length):DS K H [] (zBt N vs) (ds.map (λd=>some (d,false))++List.replicate (N.length - ds.length) none):=by
 have el:=h.length;refine⟨by unfold L2.zBt;simp[<- el],λa z=>absurd z (by simp),λi d o q=>?_,λi j d e a q1 _ _ _=>?_⟩
 .have hi:i < ds.length:=by
   by_cases z:i < ds.length
   .exact z
   .rw [getElem?_append_right (by simpa using z),getElem?_replicate] at q;split at q<;>cases q
  rw[getElem?_append_left (by simpa using hi),getElem?_map] at q;cases e:ds[i]? with
  | none=>rw[e] at q;cases q
  | some d' =>
   rw[e] at q;cases q;obtain⟨v,q1,q2⟩:=h.get e;refine⟨v,?_,.of_den (by rw[zBy];exact q2)⟩;unfold L2.zBt;rw[getElem?_append_left (by simp_all),getElem?_map,q1]
   rfl
 .have hi:i < ds.length:=by
   by_cases z:i < ds.length
   .exact z
   .rw [getElem?_append_right (by simpa using z),getElem?_replicate] at q1;split at q1<;>cases q1
  rw[getElem?_append_left (by simpa using hi)] at q1
  simp_all
theorem zSg {K:W.Frag}{st:Stmt}(F:Fun K x qual st f fd)(S:zAX N ps (zAA st))
  (hbody:∀ (cdv:Value) (A:Around) (outer:List Env) (s:Shared) (H:Hp) (E:XK),Room k (A.deeper (envOfC qual (zAA st) s.heap.objs.size f cdv))->GSs (cxOf CX0 P w K mg base N qual (zAA st) f cdv A outer s H E).nox (zAE st) g) :
  FnOk P w K mg base CX0 (k+1) f fd ps (spD K (dFun ps.length N.length g)):=by
 refine FnOk.framed (F.ok S (λvs H Q E h=>?_) λcdv A outer s H vs Q E hr h=>?_)
 .obtain ⟨ds,r,hd,hF,hk,c⟩:=h;unfold dFun at hF;by_cases q:ds.length=ps.length/\ps.length<=N.length
  .rw [<- hd.length];exact q.1
  .simp_all
 obtain⟨ds,r,hd,hF,hk,c⟩:=h;refine⟨_,hbody cdv A outer s H E hr H,?_⟩;unfold dFun at hF;by_cases q:ds.length=ps.length/\ps.length<=N.length
 .rw [if_pos q] at hF;obtain⟨o,eo,hF⟩:=bind_some hF;rw[<- q.1] at eo;refine⟨[],_,o,zNC hd (by rw[q.1];exact q.2),by rw[zBy];exact Same.refl _,eo,?_⟩;cases o with
  | nx G' =>
   cases hF;exact λS' B' H' d' s'=>c _ H' (s'.trans zAa) rfl
  | rt r' =>
   cases hF;exact⟨hk,c⟩
  | bk G'=>cases hF
  | ct G'=>cases hF
 .simp_all
end
end DL
end
section
namespace DL
open PySem
noncomputable def zBh (env:Env):List (Str×NameKind)->List (Str×Addr)->List (Str×Addr)
 | [],acc=>acc
 | (n,k)::r,acc=>zBh env r (if k==.free then (match env.cells.lookup n with | some c=>(n,c)::acc | none=>acc) else acc)
theorem zFd (f:Str×NameKind->List (Str×Addr)->Sem (ForInStep (List (Str×Addr))))
  (hf:∀ n k cs,f (n,k) cs=if k==.free then (do let a<-cellOf env n;pure (.yield ((n,a)::cs))) else pure (.yield cs)) :
  ∀ (names:List (Str×NameKind)) (acc:List (Str×Addr)),(∀ x∈names,x.2=.free->∃ c,env.cells.lookup x.1=some c)->forIn names acc f=(pure (zBh env names acc):Sem (List (Str×Addr)))
 | [],acc,_=>by rw[List.forIn_nil];rfl
 | (n,k)::r,acc,h=>by
  rw[forIn_cons,hf];have hr:∀ x∈r,x.2=.free->∃ c,env.cells.lookup x.1=some c:=λx z=>h x (qJ _ z)
  cases e:k==.free with
  | true =>
   obtain⟨c,ec⟩:=h (n,k) xq (by simpa using e);have e1:cellOf env n=pure c:=by unfold cellOf;rw[ec]
   rw[if_pos rfl,e1];unfold zBh;rw[e,if_pos rfl,ec];exact zFd f hf r _ hr
  | false =>
   rw[if_neg qY];unfold zBh;rw[e,if_neg qY];exact zFd f hf r _ hr
theorem zBL (h:∀ x∈scope.names,x.2=.free->∃ c,env.cells.lookup x.1=some c):closureFor scope env=pure (zBh env scope.names []):=by
 show (forIn scope.names _ _>>=λcs=>pure cs)=_;rw[zFd _ (λn k cs=>rfl) scope.names [] h]
 rfl
theorem zGO :∀ (names:List (Str×NameKind)) (acc:List (Str×Addr)),(∀ x c,acc.lookup x=some c->env.cells.lookup x=some c)->∀ x c,(zBh env names acc).lookup x=some c->env.cells.lookup x=some c
 | [],acc,h,x,c,e=>h x c e
 | (n,k)::r,acc,h,x,c,e=>by
  unfold zBh at e;refine zGO r _ ?_ x c e;intro y d q;cases z:k==.free with
  | false=>rw[z,if_neg qY] at q;exact h y d q
  | true =>
   rw[z,if_pos rfl] at q;cases w:env.cells.lookup n with
   | none=>rw[w] at q;exact h y d q
   | some c' =>
    rw[w] at q;dsimp only at q;rw[lookup_cons] at q;cases b:y==n with
    | true =>
     rw[b] at q;cases q;have:y=n:=by simpa using b
     rw[this];exact w
    | false=>rw[b] at q;exact h y d q
theorem zEw :∀ (names:List (Str×NameKind)) (acc:List (Str×Addr)),(∃ c,acc.lookup x=some c)->∃ c,(zBh env names acc).lookup x=some c
 | [],acc,h=>h
 | (n,k)::r,acc,h=>by
  unfold zBh;refine zEw r _ ?_;cases z:k==.free with
  | false=>rw[if_neg qY];exact h
  | true =>
   rw[if_pos rfl];cases w:env.cells.lookup n with
   | none=>exact h
   | some c' =>
    dsimp only;rw[lookup_cons];cases b:x==n with
    | true=>exact⟨_,rfl⟩
    | false=>exact h
theorem zED :∀ (names:List (Str×NameKind)) (acc:List (Str×Addr)),(x,NameKind.free)∈names->(∃ c,env.cells.lookup x=some c)->∃ c,(zBh env names acc).lookup x=some c
 | (n,k)::r,acc,hm,hc=>by
  unfold zBh;rcases mem_cons.mp hm with e | hm
  .cases e;obtain⟨c,hc⟩:=hc;refine zEw r _ ?_;rw[show (NameKind.free==NameKind.free)=true from rfl,if_pos rfl,hc];exact⟨c,by rw[lookup_cons];simp⟩
  .exact zED r _ hm hc
theorem zEv :∀ (names:List (Str×NameKind)) (acc:List (Str×Addr)) (c:Addr),(zBh env names acc).lookup x=some c->(x,NameKind.free)∈names\/∃ c,acc.lookup x=some c
 | [],acc,c,h=>.inr ⟨c,h⟩
 | (n,k)::r,acc,c,h=>by
  unfold zBh at h;rcases zEv r _ c h with q | ⟨d,q⟩
  .exact .inl (qJ _ q)
  .cases z:k==.free with
   | false=>rw[z,if_neg qY] at q;exact .inr ⟨d,q⟩
   | true =>
    rw[z,if_pos rfl] at q;cases w:env.cells.lookup n with
    | none=>rw[w] at q;exact .inr ⟨d,q⟩
    | some c' =>
     rw[w] at q;dsimp only at q;rw[lookup_cons] at q;cases b:x==n with
     | true =>
      have e1:x=n:=by simpa using b
      have e2:k=.free:=by simpa using z
      subst e1 e2;exact .inl xq
     | false=>rw[b] at q;exact .inr ⟨d,q⟩
theorem zB2 :∀ (names:List (Str×NameKind)) (n:Nat) (acc:List (Str×Addr)) (c:Addr),(cellsFrom n names acc).lookup x=some c->((x,NameKind.cell)∈names/\n<=c)\/acc.lookup x=some c
 | [],n,acc,c,h=>.inr h
 | (y,k)::r,n,acc,c,h=>by
  unfold cellsFrom at h;cases z:k==.cell with
  | false =>
   rw[z,if_neg qY] at h;rcases zB2 r n acc c h with ⟨q1,q2⟩ | q
   .exact .inl ⟨qJ _ q1,q2⟩
   .exact .inr q
  | true =>
   rw[z,if_pos rfl] at h;rcases zB2 r (n+1) _ c h with ⟨q1,q2⟩ | q
   .exact .inl ⟨qJ _ q1,by omega⟩
   .rw [lookup_cons] at q;cases b:x==y with
    | true =>
     rw[b] at q;cases q;have e1:x=y:=by simpa using b
     have e2:k=.cell:=by simpa using z
     subst e1 e2;exact .inl ⟨xq,le_refl _⟩
    | false=>rw[b] at q;exact .inr q
section
variable {M:Model}{A:Around}{E:Value->Shared->Prop}{s:Shared}
theorem zGu 
  (hQ:Q (newEnv scope s.heap.objs.size globals (cellsFrom (s.heap.objs.size+1) scope.names cl) qual none .none (some outer) builtinsNs) { s with heap:=pushCells (s.heap.push { cls:=.type "dict",data:=.dict #[] }) scope.names }) :
  wpAny M A (newFunctionEnv scope globals cl [] qual none .none (some outer)) Q E s:=by
 refine qX (wpAny_alloc ?_);refine qX (wpAny_layCells _ λname kind cells=>by cases hkc:kind==NameKind.cell<;>simp[hkc] _ _ _ _ ?_);simp;exact qX (xy (xy hQ))
end
section
variable {prog:Program}{w:World}{A:Around}{R:Result->Shared->Prop}{s:Shared}
abbrev NB (prog:Program) (w:World) (A:Around) (env:Env) (R:Result->Shared->Prop):Value->Shared->Prop:=notedBy (model prog w) A env λe s'=>R (.error e) s'
theorem zGN (I:Nat->Shared->Prop)
  (turn:∀ n s,I n s->wpAny (model prog w) A (pyNext it) (λr O3=>match r with
   | none=>R (.ok .next) O3
   | some v=>wpAny (model prog w) A (letOwnedTupleGo target it v) (λ_ s1'=>wpAny (model prog w) A (assign target env v) (λ_ O8 =>
     wpAny (model prog w) A (forIn ifs true λc r=>if r=true then do let ok<-isTrue c env (eval c env);pure (ForInStep.yield ok) else pure (ForInStep.yield r)) (λok Y2 =>
      if ok=true then wpAny (model prog w) A (eval elt env) (λx Y4 =>
       wpAny (model prog w) A (call (.builtin "list.append") [acc,x]) (λ_ Z7=>∃ m,m < n/\I m Z7) (NB prog w A env R) Y4) (NB prog w A env R) Y2
      else ∃ m,m < n/\I m Y2) (NB prog w A env R) O8) (NB prog w A env R) s1') (NB prog w A env R) O3) (NB prog w A env R) s)
  (n:Nat) (h:I n s) :
  codeAny (model prog w) A (.compLoop (.ListComp elt [⟨target,iter,ifs,0⟩] scope pos) 0 it acc env) R s:=by
 refine codeAny_loop rfl I (λn s hI=>?_) n h;show wpAny _ A ((compTurn (.ListComp elt [⟨target,iter,ifs,0⟩] scope pos) 0 it acc env).onRaise (λx=>do noteFrame x env;theTreesLotGoes x)) _ _ s;refine wpAny_noted ?_;rw[compTurn_list];refine qX (wpAny_standAt (qX (wpAny_mono (turn n s hI) (λr O3 O7=>?_) λ_ _ h'=>h')));cases r with
 | none=>exact xy O7
 | some v =>
  refine qX (wpAny_mono O7 (λ_ s1' U1=>?_) λ_ _ h'=>h');refine qX (wpAny_mono U1 (λ_ O8 Y8=>qX (wpAny_mono Y8 (λok Y2 Y9=>?_) λ_ _ h'=>h')) λ_ _ h'=>h');cases ok with
  | false=>exact xy ⟨rfl,Y9⟩
  | true =>
   exact qX (qX (wpAny_mono Y9 (λx Y4 U2=>qX (wpAny_mono U2 (λ_ Z7 U3=>xy (xy ⟨rfl,U3⟩)) λ_ _ h'=>h')) λ_ _ h'=>h'))
end
end DL
end
section
namespace DL
open PySem Spec PyProof.Rows L2
noncomputable def relS (sc scope:Scope):Scope :=
 { scope with names:=scope.names.map λ(n,k)=>if (k==.free&&sc.kind==.function&&sc.names.lookup n==some .cell) then (n,.cell) else (n,k) }
theorem zDG {names:List (Str×NameKind)}:names.lookup x=some k->(x,k)∈names:=λh=>PySem.mem_of_lookup h
theorem zCU:∀ {names:List (Str×NameKind)} {x:Str} {k:NameKind},(names.map (·.1)).Nodup->(x,k)∈names->names.lookup x=some k
 | (y,j)::r,x,k,nd,hm=>by
  rw[map_cons,nodup_cons] at nd;rw[lookup_cons];rcases mem_cons.mp hm with e | hm2
  .cases e;simp
  .have ne:(x==y)=false:=by
    cases b:x==y with
    | false=>rfl
    | true =>
     have e1:x=y:=by simpa using b
     exact absurd (show y∈r.map (·.1) from mem_map.mpr ⟨(x,k),hm2,e1⟩) nd.1
   rw[ne];exact zCU nd.2 hm2
theorem zDF {sc:Scope}:∀ (names:List (Str×NameKind)) (x:Str),(names.map λ(n,k)=>if (k==NameKind.free&&sc.kind==.function&&sc.names.lookup n==some .cell) then (n,NameKind.cell) else (n,k)).lookup x =
  (names.lookup x).map λk=>if (k==NameKind.free&&sc.kind==.function&&sc.names.lookup x==some .cell) then NameKind.cell else k
 | [],x=>rfl
 | (n,k)::r,x=>by
  rw[map_cons,lookup_cons];have ih:=zDF (sc:=sc) r x;cases b:x==n with
  | true =>
   have e1:x=n:=by simpa using b
   subst e1;dsimp only;by_cases c:(k==NameKind.free&&sc.kind==.function&&sc.names.lookup x==some .cell)=true
   .rw [if_pos c,lookup_cons];simp only[beq_self_eq_true,Option.map_some,if_pos c]
   .rw [if_neg c,lookup_cons];simp only[beq_self_eq_true,Option.map_some,if_neg c]
  | false =>
   dsimp only;by_cases c:(k==NameKind.free&&sc.kind==.function&&sc.names.lookup n==some .cell)=true
   .rw [if_pos c,lookup_cons,b];exact ih
   .rw [if_neg c,lookup_cons,b];exact ih
noncomputable def ownB (scope:Scope)(y:Str):Bool:=match scope.names.lookup y with
 | some .local=>true
 | some .cell=>true
 | _=>false
structure zCB (sc scope:Scope):Prop where
 kind:scope.kind=.function
 nd:(scope.names.map (·.1)).Nodup
 fr:∀ x∈scope.names,x.2=.free->sc.names.lookup x.1=some .cell\/sc.names.lookup x.1=some .free
theorem zB0:∀ (names:List (Str×NameKind)) (n:Nat) (acc:List (Str×Addr)),(∀ x y c,acc.lookup x=some c->acc.lookup y=some c->x=y)->(∀ x c,acc.lookup x=some c->c < n)->∀ x y c,(cellsFrom n names acc).lookup x=some c->(cellsFrom n names acc).lookup y=some c->x=y
 | [],n,acc,h1,_,x,y,c,e1,e2=>h1 x y c e1 e2
 | (z,k)::r,n,acc,h1,h2,x,y,c,e1,e2=>by
  unfold cellsFrom at e1 e2;cases b:k==.cell with
  | false =>
   rw[b,if_neg qY] at e1 e2;exact zB0 r n acc h1 h2 x y c e1 e2
  | true =>
   rw[b,if_pos rfl] at e1 e2;refine zB0 r (n+1) _ ?_ ?_ x y c e1 e2
   .intro x y c q1 q2;rw[lookup_cons] at q1 q2;cases b1:x==z with
    | true =>
     cases b2:y==z with
     | true =>
      have e3:x=z:=by simpa using b1
      have e4:y=z:=by simpa using b2
      rw[e3,e4]
     | false =>
      rw[b1] at q1;rw[b2] at q2;cases q1;exact absurd (h2 y _ q2) (lt_irrefl _)
    | false =>
     cases b2:y==z with
     | true =>
      rw[b1] at q1;rw[b2] at q2;cases q2;exact absurd (h2 x _ q1) (lt_irrefl _)
     | false =>
      rw[b1] at q1;rw[b2] at q2;exact h1 x y c q1 q2
   .intro x c q1;rw[lookup_cons] at q1;cases b1:x==z with
    | true=>rw[b1] at q1;cases q1;exact Nat.lt_succ_self _
    | false=>rw[b1] at q1;exact Nat.lt_succ_of_lt (h2 x c q1)
theorem zAx :∀ (names:List (Str×NameKind)) (n:Nat) (acc:List (Str×Addr)),(∃ c,acc.lookup x=some c)->∃ c,(cellsFrom n names acc).lookup x=some c
 | [],n,acc,h=>h
 | (z,k)::r,n,acc,h=>by
  unfold cellsFrom;cases b:k==.cell with
  | false=>rw[if_neg qY];exact zAx r n acc h
  | true =>
   rw[if_pos rfl];refine zAx r (n+1) _ ?_;rw[lookup_cons];cases b1:x==z with
   | true=>exact⟨_,rfl⟩
   | false=>exact h
theorem zB1 :∀ (names:List (Str×NameKind)) (n:Nat) (acc:List (Str×Addr)),(x,NameKind.cell)∈names->∃ c,(cellsFrom n names acc).lookup x=some c
 | (z,k)::r,n,acc,hm=>by
  unfold cellsFrom;rcases mem_cons.mp hm with e | hm
  .cases e;rw[show (NameKind.cell==NameKind.cell)=true from rfl,if_pos rfl];exact zAx r (n+1) _ ⟨n,by rw[lookup_cons];simp⟩
  .cases b:k==.cell with
   | false=>rw[if_neg qY];exact zB1 r n acc hm
   | true=>rw[if_pos rfl];exact zB1 r (n+1) _ hm
theorem zAo:∀ (names:List (Str×NameKind)) (h:Heap) (b:Addr) (o:Obj),h.get? b=some o->(pushCells h names).get? b=some o
 | [],h,b,o,e=>e
 | (z,k)::r,h,b,o,e=>by
  unfold pushCells;cases c:k==.cell with
  | false=>rw[if_neg qY];exact zAo r h b o e
  | true=>rw[if_pos rfl];exact zAo r _ b o (get?_push_of_some _ e)
theorem zBi:∀ (names:List (Str×NameKind)) (h:Heap) (acc:List (Str×Addr)),(∀ x c,acc.lookup x=some c->∃ v,h.IsCell c v)->∀ x c,(cellsFrom h.objs.size names acc).lookup x=some c->∃ v,(pushCells h names).IsCell c v
 | [],h,acc,q,x,c,e=>q x c e
 | (z,k)::r,h,acc,q,x,c,e=>by
  unfold cellsFrom at e;unfold pushCells;cases b:k==.cell with
  | false =>
   rw[b,if_neg qY] at e;rw[if_neg qY];exact zBi r h acc q x c e
  | true =>
   rw[b,if_pos rfl] at e;rw[if_pos rfl];have es:(h.push { cls:=.type "cell",data:=.cell none }).objs.size=h.objs.size+1:=Heap.size_push ..;rw[<- es] at e;refine zBi r (h.push { cls:=.type "cell",data:=.cell none }) ((z,h.objs.size)::acc) ?_ x c e;intro y d p;rw[lookup_cons] at p;cases b1:y==z with
   | true =>
    rw[b1] at p;cases p;exact⟨none,_,get?_push_size _ rfl,rfl⟩
   | false =>
    rw[b1] at p;obtain⟨v,o,ho,hd⟩:=q y d p;exact⟨v,o,get?_push_of_some _ ho,hd⟩
noncomputable def zBa (scope:Scope)(X:Cx)(s:Shared):Env :=
 { newEnv scope s.heap.objs.size X.env.globals (cellsFrom (s.heap.objs.size+1) scope.names (zBh X.env scope.names [])) X.env.qual none .none (some X.env) builtinsNs with scope:=relabel scope X.env }
noncomputable def zAR (X:Cx)(N:List Str)(scope:Scope)(s:Shared)(H:Hp)(fp:List Addr):Cx :=
 { X with N:=N,s0:=s,Y6:=H,env:=zBa scope X s,outer:=X.stack,stack:=X.stack,ex:=fp,fn:=ownB scope,pn:=[],xe:=λ_ _=>False }
section
variable {X:Cx}{pins:List (Addr×Obj)}{B σc:St}{H:Hp}{s:Shared}{fp:List Addr}{scope:Scope}{N:List Str}
theorem zEC (I:Inv X pins B H s)(cs:zCB X.env.scope scope):∀ x∈scope.names,x.2=.free->∃ c,X.env.cells.lookup x.1=some c:=λx hx hf =>
 I.ok.has x.1 (cs.fr x hx hf)
theorem zMW (I:Inv X pins B H s)(hf:∀ b∈fp,FpOk X pins H b/\∃ o,s.heap.get? b=some o)(cs:zCB X.env.scope scope)
  (Z4:∀ (i:Nat) (x:Str) (v:V),N[i]?=some x->σc[i]?=some (some v)->Vis (relS X.env.scope scope) x->scope.names.lookup x=some .free/\∃ j:Nat,X.N[j]?=some x/\B[j]?=some (some v)) (hlen:σc.length=N.length) :
  Inv (zAR X N scope s H fp) [] σc H { s with heap:=pushCells (s.heap.push { cls:=.type "dict",data:=.dict #[] }) scope.names }:=by
 have kp:∀ b o,s.heap.get? b=some o->(pushCells (s.heap.push { cls:=.type "dict",data:=.dict #[] }) scope.names).get? b=some o:=λb o e=>zAo _ _ b o (get?_push_of_some _ e)
 have cl_env:∀ x c,(zBh X.env scope.names []).lookup x=some c->X.env.cells.lookup x=some c:=λx c e=>zGO scope.names [] (λ_ _ q=>by simp at q) x c e
 have cl_lt:∀ x c,(zBh X.env scope.names []).lookup x=some c->c < s.heap.objs.size:=λx c e=>by
  obtain⟨v,q⟩:=I.cell x c (cl_env x c e);exact q.lt
 have cells:∀ x c,(zBa scope X s).cells.lookup x=some c->((x,NameKind.cell)∈scope.names/\s.heap.objs.size+1<=c)\/(zBh X.env scope.names []).lookup x=some c:=λx c e=>zB2 scope.names _ _ c e
 have kd:∀ x,(zBa scope X s).kindOf x=(scope.names.lookup x).map λk=>if (k==NameKind.free&&X.env.scope.kind==.function&&X.env.scope.names.lookup x==some .cell) then NameKind.cell else k:=λx=>zDF (sc:=X.env.scope) scope.names x
 have hes:(s.heap.push { cls:=.type "dict",data:=.dict #[] }).objs.size=s.heap.objs.size+1:=Heap.size_push ..;refine⟨⟨I.ok.mod,cs.kind,I.ok.glob,I.ok.blt,le_refl _,λx y c h1 h2=>?_,λx hx=>?_,λx c hx h=>?_,I.ok.hd,I.ok.frames,.inl rfl,λb hb=>⟨?_,λx c h z=>?_⟩,λb o e=>I.bs b o e,le_trans I.ok.bsz I.sz,λb o e hb=>?_,λb hb z=>?_,I.stack,I.stkFree,I.ok.pyl,I.tabs⟩,
  rfl,I.bare,Un.kept kp,⟨λ_=>none,?_,λi x v h1 h2 h3=>?_⟩,λx c h=>?_,I.hok.fresh (le_refl _),λx c h=>?_,λp hp=>absurd (show p∈([]:List (Addr×Obj)) from hp) (by simp),I.hok.kept kp,hlen⟩
 .exact zB0 scope.names _ _ (λx y c q1 q2=>I.ok.inj x y c (cl_env x c q1) (cl_env y c q2)) (λx c q=>Nat.lt_succ_of_lt (cl_lt x c q)) x y c h1 h2
 .replace hx:(zBa scope X s).kindOf x=some .cell\/(zBa scope X s).kindOf x=some .free:=hx;rw[kd x] at hx;cases q:scope.names.lookup x with
  | none=>rw[q] at hx;simp at hx
  | some k =>
   rw[q] at hx;by_cases kf:k=.free
   .subst kf;have hm:=zDG q;exact zAx scope.names _ _ (zED scope.names [] hm (zEC I cs _ hm rfl))
   .have e1:(k==NameKind.free)=false:=by simpa using kf
    simp only[e1,Bool.false_and,Option.map_some,Bool.false_eq_true,if_false] at hx;rcases hx with hx | hx
    .cases hx;exact zB1 scope.names _ _ (zDG q)
    .cases hx;exact absurd rfl kf
 .rcases cells x c h with ⟨_,q⟩ | q
  .exact le_trans (Nat.le_succ _) q
  .rcases zEv scope.names [] c q with hm | ⟨d,hm⟩
   .have e1:=zCU cs.nd hm;have hx':ownB scope x=true:=hx;unfold ownB at hx';rw[e1] at hx';cases hx'
   .simp at hm
 .obtain ⟨_,o,e⟩:=hf b hb;exact ne_of_lt (lt_size e)
 .obtain ⟨⟨f0,f1,f2,f3,f4,f5⟩,o,e⟩:=hf b hb;rcases cells x c h with ⟨_,q⟩ | q
  .have:=lt_size e;rw[z] at q;exact absurd (xY (Nat.lt_succ_of_lt this) q) (lt_irrefl _)
  .exact f4 x c (cl_env x c q) z
 .obtain ⟨⟨f0,f1,f2,f3,f4,f5⟩,_⟩:=hf b hb;rcases f3 with f3 | f3
  .exact I.ok.noex b o e f3
  .exact absurd (xY (lt_size e) (le_trans I.ok.bsz f3)) (lt_irrefl _)
 .obtain ⟨⟨f0,f1,f2,f3,f4,f5⟩,_⟩:=hf b hb;rcases mem_cons.mp (I.stkSub b z) with q | q
  .exact f1 q
  .exact f2 q
 .exact (Heap.Ns.new s.heap (.type "dict")).keeps (zAo _ _)
 .obtain ⟨q1,j,q2,q3⟩:=Z4 i x v h1 h2 h3;have hm:=zDG q1;have hv:=cs.fr _ hm rfl;obtain⟨m,hn,hl⟩:=I.loc;obtain⟨u,ru,lk⟩:=hl j x v q2 q3 (hv.elim (λe=>.inr (.inl e)) λe=>.inr (.inr e));refine⟨u,ru,.inr ⟨?_,?_⟩⟩
  .show (zBa scope X s).kindOf x=_\/(zBa scope X s).kindOf x=_;rw[kd x,q1];dsimp only[Option.map_some];split
   .exact .inl rfl
   .exact .inr rfl
  .rcases lk with ⟨k1,_⟩ | ⟨_,c,k2,k3⟩
   .have k1':X.env.scope.names.lookup x=some .local:=k1
    simp_all
   .obtain ⟨c',e'⟩:=zAx scope.names (s.heap.objs.size+1) _ (zED (env:=X.env) scope.names [] hm ⟨c,k2⟩);refine⟨c',e',?_⟩;rcases cells x c' e' with ⟨z,_⟩ | z
    .have:=zCU cs.nd z;rw[q1] at this;cases this
    .have:=cl_env x c' z;rw[k2] at this;cases this;exact k3.keeps kp
 .have e':(cellsFrom (s.heap.push { cls:=.type "dict",data:=.dict #[] }).objs.size scope.names (zBh X.env scope.names [])).lookup x=some c:=by rw[hes];exact h
  exact zBi scope.names _ _ (λy d q=>by
   obtain⟨v,w⟩:=I.cell y d (cl_env y d q);exact⟨v,w.keeps λb o e=>get?_push_of_some _ e⟩) x c e'
 .rcases cells x c h with ⟨_,q⟩ | q
  .exact I.hok.fresh (le_trans (Nat.le_succ _) q)
  .exact I.freeC x c (cl_env x c q)
end
noncomputable def noN (N:List Str):Str:=Str.ofString (String.ofList (List.replicate N.length (Char.ofNat 32)))
noncomputable def mask {T:Type}(z:T):List Nat->List T->List T
 | [],l=>l
 | m::ms,l=>mask z ms (l.set m z)
theorem zAy {T:Type}(z:T):∀ (ms:List Nat) (l:List T),(mask z ms l).length=l.length
 | [],l=>rfl
 | m::ms,l=>by unfold mask;rw[zAy z ms,length_set]
theorem zBK {T:Type}{z y:T}{i:Nat}:∀ {ms:List Nat} {l:List T},(mask z ms l)[i]?=some y->(y=z/\i∈ms)\/(l[i]?=some y/\i∉ms)
 | [],l,h=>.inr ⟨h,by simp⟩
 | m::ms,l,h=>by
  unfold mask at h;rcases zBK h with ⟨e,hm⟩ | ⟨e,hm⟩
  .exact .inl ⟨e,qJ _ hm⟩
  .rcases zAO e with ⟨e1,e2,_⟩ | ⟨ne,e1⟩
   .exact .inl ⟨e2,by rw[<- e1];exact xq⟩
   .exact .inr ⟨e1,λz=>(mem_cons.mp z).elim (λq=>ne q.symm) hm⟩
theorem zFU {T:Type}{z:T}{i:Nat}:∀ {ms:List Nat} {l:List T},i∉ms->(mask z ms l)[i]?=l[i]?
 | [],l,_=>rfl
 | m::ms,l,h=>by
  unfold mask;rw[zFU λq=>h (qJ _ q),getElem?_set_ne λq=>h (by rw[q];exact xq)]
theorem zB5 {T:Type}{l:List (Option T)}{k i:Nat}{y:T}(h:(l++List.replicate k none)[i]?=some (some y)):l[i]?=some (some y)/\i < l.length:=by
 by_cases hi:i < l.length
 .rw [getElem?_append_left hi] at h;exact⟨h,hi⟩
 .rw [getElem?_append_right (by omega),getElem?_replicate] at h;grind
theorem DS.ext {K:W.Frag}(h:DS K H S B G)(ms:List Nat)(k:Nat):DS K H S (mask none ms B++List.replicate k none) (mask none ms G++List.replicate k none):=by
 refine⟨by rw[qQ,qQ,zAy,zAy,h.len,length_replicate,length_replicate],h.sok,λi d o q=>?_,λi j d e a q1 q2 q3 q4=>?_⟩
 .obtain ⟨q,hi⟩:=zB5 q;rcases zBK q with ⟨z,_⟩ | ⟨q,ni⟩
  .cases z
  .obtain ⟨v,w1,w2⟩:=h.get i d o q;exact⟨v,by rw[getElem?_append_left (by rw[zAy] at hi ⊢;rw[h.len];exact hi),zFU ni];exact w1,w2⟩
 .obtain ⟨q1,_⟩:=zB5 q1;obtain⟨q2,_⟩:=zB5 q2;obtain⟨q3,_⟩:=zB5 q3;obtain⟨q4,_⟩:=zB5 q4;rcases zBK q1 with ⟨z,_⟩ | ⟨q1,_⟩
  .cases z
  rcases zBK q2 with ⟨z,_⟩ | ⟨q2,_⟩
  .cases z
  rcases zBK q3 with ⟨z,_⟩ | ⟨q3,_⟩
  .cases z
  rcases zBK q4 with ⟨z,_⟩ | ⟨q4,_⟩
  .cases z
  exact h.inj i j d e a q1 q2 q3 q4
noncomputable def zCa (t:D->Dst->Option Dst)(c:Dst->Option Bool)(e:Dst->Option R):List D->Dst->Option (List D)
 | [],_=>some []
 | x::xs,G=>(t x G).bind λO5=>(c O5).bind λb=>if b=true then (e O5).bind λr=>if r.2=.dt then none else (zCa t c e xs O5).bind λys=>some (r.1::ys) else zCa t c e xs O5
noncomputable def zIo (ms:List Nat)(k:Nat)(f:Dst->Option (List D))(t:D->Dst->Option Dst)(c:Dst->Option Bool)(e:Dst->Option R):Dst->Option R:=λG =>
 (f G).bind λzs=>if zs.length<=10000 then (zCa t c e zs (mask none ms G++List.replicate k none)).bind λys=>some (.lst ys,.fr) else none
def GCs (X:Cx)(ifs:List Expr)(c:Dst->Option Bool):Prop:=∀ (pins:List (Addr×Obj)) (s:Shared) (B:St) (H:Hp) (Q:Bool->Hp->Prop),Inv X pins B H s->gB X.K c B H Q ->
 wpAny (model X.prog X.w) X.A (forIn ifs true λc r=>if r=true then do let ok<-isTrue c X.env (eval c X.env);pure (ForInStep.yield ok) else pure (ForInStep.yield r)) (TP X pins B Q) X.xe s
section
variable {X:Cx}
theorem zPt:GCs X [] (λ_=>some true):=λpins s B H Q I zy137=>by obtain⟨S,G,b,ds,e,c⟩:=zy137;exact wpAny_tests_nil ⟨H,I,by cases e;exact c H (Same.refl _)⟩
theorem zPs (h:GT X a c):GCs X [a] c:=λpins s B H Q I q=>wpAny_tests_one (h pins s B H Q I q)
theorem zH7 (hcalm:X.calm=true)(hwi:PI X tg iter wi)(cs:zCB X.env.scope scope)
  (hm:∀ (i:Nat) x,X.N[i]?=some x->ownB scope x=true->i∈ms)
      (I:Inv X pins B H s) {L:It->Hp->Nat->Nat->St->Hp->List V->Prop} {Z:Hp->Hp->List V->Prop}
  (h0:wi B H λJ H2=>∃ n,L J H2 n 0 (mask none ms B++List.replicate xs.length none) H2 [])
  (len:∀ {J H2 n i B' H' vs},L J H2 n i B' H' vs->vs.length<=10000)
  (step:∀ {J H2 n i B' H' vs} (s3:Shared) (fp:List Addr),L J H2 n i B' H' vs->(J.stop i H'/\Z H2 H' vs)\/∃ n',n' < n/\J.go i H'/\∀ v H5,J.yld i H' v H5->H5=H' /\
   ∀ (Y:Cx),Y=zAR X (mask (noN X.N) ms X.N++xs) scope s3 H2 fp->∀ (pn:List (Addr×Obj)) (s5:Shared) (u:Value) (E:Value->Shared->Prop),Inv Y pn B' H' s5->RelV v u ->
    wpAny (model X.prog X.w) X.A (assign tg Y.env u) (λ_ s6=>wpAny (model X.prog X.w) X.A (forIn ifs true λc r=>if r=true then do let ok<-isTrue c Y.env (eval c Y.env);pure (ForInStep.yield ok) else pure (ForInStep.yield r)) (λok s7 =>
     if ok=true then wpAny (model X.prog X.w) X.A (eval elt Y.env) (λuv s8=>∃ v' B6 H8,Inv Y pn B6 H8 s8/\RelV v' uv/\L J H2 n' (i+1) B6 H8 (vs++[v'])) E s7 else ∃ B6 H8,Inv Y pn B6 H8 s7/\L J H2 n' (i+1) B6 H8 vs) E s6) E s5)
  {RR:Value->Addr->Result->Shared->Prop}
  (fin:∀ (D C:Addr) (s1:Shared) (H'':Hp) (m:Str->Option Value),s1.heap.Ns C m->(∀ h',Heap.SameBut C s1.heap h'->Inv X pins B H'' { s1 with heap:=h' })->H'' C=none->C≠X.env.locals->C∉X.fs->X.s0.heap.objs.size<=C ->
   (∀ x c,X.env.cells.lookup x=some c->c≠C)->(∀ p∈X.pn++pins,p.1≠C)->(∃ H2 H' vs,Z H2 H' vs/\H2 D=none/\H' D=none/\H''=upd H' D (.lst vs))->RR (.ref D) C (.ok .next) s1) :
  wpAny (model X.prog X.w) X.A (eval iter X.env) (λx O3=>wpAny (model X.prog X.w) X.A (pyIter x) (λit O8=>wpAny (model X.prog X.w) X.A (newList []) (λacc Y2 =>
   wpAny (model X.prog X.w) X.A (newFunctionEnv scope X.env.globals (zBh X.env scope.names []) [] X.env.qual none .none (some X.env)) (λcenv Y4 =>
    codeAny (model X.prog X.w) X.A (.compStart (.ListComp elt [⟨tg,iter,ifs,0⟩] scope pos) 0 it acc { cenv with scope:=relabel scope X.env }) (RR acc cenv.locals) Y4) X.xe Y2) X.xe O8) X.xe O3) X.xe s:=by
 refine thn (hwi pins s B H _ I h0) λv s1 h1=>thn h1 λitv s2 h2=>?_
 obtain⟨it,fp,tn,J,H2,rfl,I2,T,st2,f2,n0,l0⟩:=h2;refine wpAny_newObj_type (zGu ?_);have e3:∃ s3:Shared,s3={ s2 with heap:=s2.heap.push { cls:=.type "list",dict:=none,data:=.seq ([]:List Value).toArray } }:=⟨_,rfl⟩;obtain⟨s3,hs3⟩:=e3;rw[<- hs3];have eD:∃ D,D=s2.heap.objs.size:=⟨_,rfl⟩;obtain⟨D,hD⟩:=eD;rw[<- hD];have hC:s3.heap.objs.size=D+1:=by rw[hs3,hD];exact Heap.size_push ..
 have k23:∀ b o,s2.heap.get? b=some o->s3.heap.get? b=some o:=λb o q=>by rw[hs3];exact get?_push_of_some _ q
 have I3:Inv X pins B H2 s3:=by rw[hs3];exact I2.kept (t':=s2.toks) λb o q=>get?_push_of_some _ q
 have oD:s3.heap.get? D=some { cls:=.type "list",data:=.seq ([]:List Value).toArray }:=by rw[hs3,hD];exact get?_push_size _ rfl
 have H2D:H2 D=none:=by rw[hD];exact I2.hok.fresh (le_refl _)
 have fplt:∀ b∈fp,b < D:=λb hb=>by
  obtain⟨o,q,_⟩:=T.obj _ _ st2 b hb;rw[hD];exact lt_size q
 have hfD:∀ b∈D::fp,FpOk X pins H2 b/\∃ o,s3.heap.get? b=some o:=λb hb=>by
  rcases mem_cons.mp hb with rfl | hb
  .exact ⟨I2.fpOk (by rw[hD];exact le_refl _) H2D,_,oD⟩
  .obtain ⟨o,q,_⟩:=T.obj _ _ st2 b hb;exact⟨f2 b hb,o,k23 b o q⟩
 have lenN:(mask none ms B++List.replicate xs.length none).length=(mask (noN X.N) ms X.N++xs).length:=by
  rw[qQ,qQ,zAy,zAy,length_replicate,I.len]
 have Ic:=zMW (fp:=D::fp) (N:=mask (noN X.N) ms X.N++xs) (σc:=mask none ms B++List.replicate xs.length none) I3 hfD cs (λi x v q1 q2 q3=>by
  obtain⟨q2,hi2⟩:=zB5 q2;rcases zBK q2 with ⟨z,_⟩ | ⟨q2,ni⟩
  .cases z
  have hiN:i < (mask (noN X.N) ms X.N).length:=by rw[zAy] at hi2 ⊢;rw[<- I.len];exact hi2
  rw[getElem?_append_left hiN] at q1;rcases zBK q1 with ⟨_,z⟩ | ⟨q1,_⟩
  .exact absurd z ni
  refine⟨?_,i,q1,q2⟩;have no:ownB scope x=false:=by
   cases b:ownB scope x with
   | false=>rfl
   | true=>exact absurd (hm i x q1 b) ni
  unfold Vis relS at q3;rw[zDF] at q3;unfold ownB at no;cases w:scope.names.lookup x with
  | none=>rw[w] at q3;simp at q3
  | some k =>
   rw[w] at no;cases k with
   | free=>rfl
   | «local»=>cases no
   | cell=>cases no
   | _=>rw[w] at q3;simp at q3) lenN
 have st4:tn 0 (pushCells (s3.heap.push { cls:=.type "dict",data:=.dict #[] }) scope.names):=T.keep 0 _ _ st2 λb hb o q=>zAo _ _ b o (get?_push_of_some _ (k23 b o q))
 have loop:codeAny (model X.prog X.w) X.A (.compLoop (.ListComp elt [⟨tg,iter,ifs,0⟩] scope pos) 0 (.ref it) (.ref D) (zBa scope X s3)) (RR (.ref D) s3.heap.objs.size) { s3 with heap:=pushCells (s3.heap.push { cls:=.type "dict",data:=.dict #[] }) scope.names }:=by
  refine zGN (λn s'=>∃ (i:Nat) (B':St) (H':Hp) (vs:List V) (its:List Value),Inv (zAR X (mask (noN X.N) ms X.N++xs) scope s3 H2 (D::fp)) [] B' H' s'/\tn i s'.heap/\(∀ b∈D::fp,H' b=none)/\s'.heap.PlainList D its.toArray/\Vals vs its/\L J H2 n i B' H' vs) ?_ n0
   ⟨0,_,H2,[],[],Ic,st4,λb hb=>(hfD b hb).1.1,⟨_,zAo _ _ D _ (get?_push_of_some _ oD)⟩,.nil,l0⟩
  rintro n s' ⟨i,B',H',vs,its,Ic',st',fr',⟨nD,pl⟩,rv,ll⟩;have lenv:its.length<=10000:=by rw[<- rv.length];exact len ll
  have fpc:∀ {b:Addr} {pn:List (Addr×Obj)} {Hx:Hp},b∈D::fp->Hx b=none->(∀ p∈pn,p.1≠b)->FpOk (zAR X (mask (noN X.N) ms X.N++xs) scope s3 H2 (D::fp)) pn Hx b:=λ{b pn Hx} hb hn hp =>
   ⟨hn,(Ic'.ok.exf b hb).1,Ic'.ok.exfs b hb,.inl hb,(Ic'.ok.exf b hb).2,λp hp'=>hp p (show p∈pn from hp')⟩
  have pinD:∀ {p:Addr×Obj} {h:Heap},p∈zB7 [D] h->p.1=D:=λ{p h} hp=>by simpa using (zF2 hp).1
  have I0:Inv (zAR X (mask (noN X.N) ms X.N++xs) scope s3 H2 (D::fp)) ([]++zB7 [D] s'.heap) B' H' s':=Ic'.pinned (fp:=[D]) (λb hb=>by
   have eb:b=D:=by simpa using hb
   subst eb;exact fpc xq (fr' _ xq) λp hp=>absurd hp (by simp)) λb hb=>by
   have eb:b=D:=by simpa using hb
   subst eb;exact⟨_,pl,λv z=>by cases z⟩
  have fp0:∀ b∈fp,FpOk (zAR X (mask (noN X.N) ms X.N++xs) scope s3 H2 (D::fp)) ([]++zB7 [D] s'.heap) H' b:=λb hb=>fpc (qJ _ hb) (fr' b (qJ _ hb)) λp hp z=>by
   have q1:=pinD (by simpa using hp);have q2:=fplt b hb;rw[<- z,q1] at q2;exact absurd q2 (lt_irrefl _)
  have memD:(D,_)∈zB7 [D] s'.heap:=zCT (by simp) pl;rcases step s3 (D::fp) ll with ⟨stp,ze⟩ | ⟨n',hn',go,yl⟩
  case inr =>
   refine wpAny_mono (T.item (zAR X (mask (noN X.N) ms X.N++xs) scope s3 H2 (D::fp)) rfl rfl rfl hcalm i ([]++zB7 [D] s'.heap) s' B' H' _ I0 fp0 st' go) (λr s4 zz67=>?_) λ_ _ z=>z
   obtain⟨u,hr,h4⟩:=zz67;subst hr;refine wpAny_mono h4 (λ_ s5 zz68=>?_) λ_ _ z=>z
   obtain⟨x,H5,I5,r5,y5,st5,fr5⟩:=zz68;obtain⟨rfl,hv⟩:=yl x H5 y5;have pl5:=(I5.pin (D,_) (xj _ (xj _ memD))).1;have I5':Inv (zAR X (mask (noN X.N) ms X.N++xs) scope s3 H2 (D::fp)) ([]++zB7 (D::fp) s5.heap) B' H5 s5:=I5.unpinned.pinned (fp:=D::fp) (λb hb=>fpc hb (fr' b hb) λp hp=>absurd hp (by simp)) λb hb=>by
    rcases mem_cons.mp hb with rfl | hb
    .exact ⟨_,pl5,λv z=>by cases z⟩
    .exact T.obj _ _ st5 b hb
   have there:∀ {Hx:Hp} {sx:Shared} {Bx:St},Inv (zAR X (mask (noN X.N) ms X.N++xs) scope s3 H2 (D::fp)) ([]++zB7 (D::fp) s5.heap) Bx Hx sx->∀ b∈D::fp,(∀ o,s5.heap.get? b=some o->sx.heap.get? b=some o)/\Hx b=none:=λ{Hx sx Bx} Ix b hb=>by
    have q:∃ o,s5.heap.get? b=some o:=by
     rcases mem_cons.mp hb with rfl | hb
     .exact ⟨_,pl5⟩
     .obtain ⟨o,q,_⟩:=T.obj _ _ st5 b hb;exact⟨o,q⟩
    obtain⟨o,q⟩:=q;have w:=Ix.pin (b,o) (xj _ (xj _ (zCT hb q)));exact⟨λo' q'=>by rw[q] at q';cases q';exact w.1,w.2.1⟩
   refine wpAny_mono (hv _ rfl _ s5 u _ I5' r5) (λ_ s6 h6=>wpAny_mono h6 (λok s7 h7=>?_) λ_ _ z=>z) λ_ _ z=>z
   cases ok with
   | false =>
    rw[if_neg qY] at h7 ⊢;obtain⟨B6,H7,I7,l7⟩:=h7;exact⟨n',hn',i+1,B6,H7,vs,its,I7.unpinned,T.keep _ _ _ st5 λb hb o q=>(there I7 b (qJ _ hb)).1 o q,λb hb=>(there I7 b hb).2,⟨nD,(there I7 D xq).1 _ pl5⟩,rv,l7⟩
   | true =>
    rw[if_pos rfl] at h7 ⊢;refine wpAny_mono h7 (λuv s8 zz69=>?_) λ_ _ z=>z
    obtain⟨v,B6,H8,I8,rv8,l8⟩:=zz69;have pl8:=(there I8 D xq).1 _ pl5;refine wpAny_list_append_plain (hsz:=by rw[xQ];exact zCw lenv) ⟨nD,pl8⟩ λh9 hl9 hs9=>?_
    have I9:Inv (zAR X (mask (noN X.N) ms X.N++xs) scope s3 H2 (D::fp)) [] B6 H8 { s8 with heap:=h9 }:=I8.unpinned.turned (it:=D) (t':=s8.toks) (λb o hb q=>hs9.extBut b o hb q) (there I8 D xq).2 (Ic'.ok.exf D xq).1 (.inl xq) (Ic'.ok.exf D xq).2 λp hp=>absurd (show p∈([]:List (Addr×Obj)) from hp) (by simp)
    refine⟨n',hn',i+1,B6,H8,vs++[v],its++[uv],I9,T.keep _ _ _ st5 λb hb o q=>hs9.extBut b o (λz=>?_) ((there I8 b (qJ _ hb)).1 o q),λb hb=>(there I8 b hb).2,?_,rv.append (.cons rv8 .nil),l8⟩
    .have:=fplt b hb;rw[z] at this;exact absurd this (lt_irrefl _)
    .have ea:its.toArray.push uv=(its++[uv]).toArray:=by simp
     rw[<- ea];exact hl9
  case inl =>
   refine wpAny_mono (T.done (zAR X (mask (noN X.N) ms X.N++xs) scope s3 H2 (D::fp)) rfl rfl rfl hcalm _ ([]++zB7 [D] s'.heap) s' B' H' _ I0 fp0 st' stp) (λr s4 zz70=>?_) λ_ _ z=>z
   obtain⟨hr,I4⟩:=zz70;subst hr;obtain⟨m,ns,_⟩:=id I4.loc;have eC:(zAR X (mask (noN X.N) ms X.N++xs) scope s3 H2 (D::fp)).env.locals=D+1:=hC;rw[eC] at ns;have pl4:=I4.pin (D,_) (xj _ (xj _ memD));have HD:H' D=none:=pl4.2.1;have HC:H' (D+1)=none:=by have:=I4.free;rw[eC] at this;exact this
   have CD:D≠D+1:=ne_of_lt (Nat.lt_succ_self D);have neD:∀ {b:Addr} {o:HO},H' b=some o->b≠D:=λ{b o} q z=>by rw[z,HD] at q;cases q
   have ne2:∀ {b:Addr} {o:HO},H2 b=some o->b≠D:=λ{b o} q z=>by rw[z,H2D] at q;cases q
   have lt2:∀ {b:Addr} {o:Obj},s2.heap.get? b=some o->b < D:=λ{b o} q=>by rw[hD];exact lt_size q
   have outex:∀ {b:Addr} {o:Obj},s2.heap.get? b=some o->b∉fp->b∉D::fp:=λ{b o} q hx z=>(mem_cons.mp z).elim (λz=>absurd (lt2 q) (by rw[z];exact lt_irrefl _)) hx
   have neC:∀ {b:Addr} {o:Obj},s2.heap.get? b=some o->b≠D+1:=λ{b o} q=>ne_of_lt (Nat.lt_succ_of_lt (lt2 q))
   have gt2:s2.heap.objs.size<=D+1:=by rw[<- hD];exact Nat.le_succ _
   show RR (.ref D) s3.heap.objs.size (.ok .next) s4;rw[hC];refine fin D (D+1) s4 (upd H' D (.lst vs)) m ns (λh' sb=>?_) ?_ (Nat.ne_of_gt (xY I2.lt gt2)) (I2.nofs gt2) (le_trans I2.sz gt2) (λx c q z=>?_) (λp hp z=>?_) ⟨H2,H',vs,ze,H2D,HD,rfl⟩
   .refine I2.call' (s':={ s4 with heap:=h' }) (ch:=fp) ?_ ⟨λb o q n hb hx=>sb.extBut b o (neC q) (I4.base.keep b o (k23 b o q) n hb (outex q hx)),λb o q n hb hx=>?_,λb o q n hx=>?_,λb o q hx=>?_,λb ws q=>?_,λb o w q=>?_,λb ps q=>?_⟩ (λb w q=>?_) I4.bare λb hb=>?_
    .have:=I4.os;rw[hs3] at this;exact this
    .obtain ⟨sl,w⟩:=I4.base.slot b o (k23 b o q) n hb (outex q hx);exact⟨sl,sb.extBut b _ (neC q) w⟩
    .rw [zAN (ne_of_lt (lt2 q))];exact I4.base.free b o (k23 b o q) n (outex q hx)
    .obtain ⟨o',w⟩:=I4.base.there b o (k23 b o q) (outex q hx);exact⟨o',sb.extBut b _ (neC q) w⟩
    .rw [zAN (ne2 q)];exact I4.base.tups b ws q
    .rw [zAN (ne2 q)];exact I4.base.frzs b o w q
    .rw [zAN (ne2 q)];exact I4.base.tbls b ps q
    .by_cases z:b=D
     .subst z;rw[zAP] at q;cases q;exact⟨by rw[rv.length];exact zCw lenv,its,nD,rv,sb.extBut b _ CD pl4.1⟩
     .rw [zAN z] at q;refine(I4.hok b w q).stay (λd v hd w'=>sb.extBut d v (λz'=>?_) w') (λd w'=>by rw[zAN (neD w')];exact w') (λd ws w'=>by rw[zAN (neD w')];exact w') λd ob u w' _=>by rw[zAN (neD w')];exact w'
      rcases hd with hd | hd
      .rw [<- hd,z',HC] at q;cases q
      .rw [z',HC] at hd;cases hd
    .obtain ⟨f0,f1,f2',f3,f4,f5⟩:=f2 b hb;exact⟨f3,f1,f4,f5⟩
   .rw [zAN (Ne.symm CD)];exact HC
   .obtain ⟨v,w⟩:=I2.cell x c q;have:=w.lt;rw[z,<- hD] at this;exact absurd (Nat.lt_trans this (Nat.lt_succ_self D)) (lt_irrefl _)
   .have:=lt_size (I2.pin p hp).1;rw[z,<- hD] at this;exact absurd (Nat.lt_trans this (Nat.lt_succ_self D)) (lt_irrefl _)
 exact codeAny_compStart_list loop (T.self X.A 0 _ _ _ st4 loop)
theorem zGK (hcalm:X.calm=true)(hi:GI X tg iter f)(cs:zCB X.env.scope scope)
  (hm:∀ (i:Nat) x,X.N[i]?=some x->ownB scope x=true->i∈ms)
  (hg:∀ s H fp,GG (zAR X (mask (noN X.N) ms X.N++xs) scope s H fp) tg t)
  (hc:∀ s H fp,GCs (zAR X (mask (noN X.N) ms X.N++xs) scope s H fp) ifs c) (he:∀ s H fp,GE (zAR X (mask (noN X.N) ms X.N++xs) scope s H fp) elt e)
         (I:Inv X pins B H s) (ds:DS X.K H S B G) (ez:f G=some zs) (hz:zs.length<=10000) (ey:zCa t c e zs (mask none ms G++List.replicate xs.length none)=some ys)
  {RR:Value->Addr->Result->Shared->Prop}
  (fin:∀ (D C:Addr) (s1:Shared) (H'':Hp) (m:Str->Option Value),s1.heap.Ns C m->(∀ h',Heap.SameBut C s1.heap h'->Inv X pins B H'' { s1 with heap:=h' })->H'' C=none->C≠X.env.locals->C∉X.fs->X.s0.heap.objs.size<=C ->
   (∀ x c,X.env.cells.lookup x=some c->c≠C)->(∀ p∈X.pn++pins,p.1≠C)->Same H H''->RV X.K H H'' S (.lst ys,.fr) (.ref D)->RR (.ref D) C (.ok .next) s1) :
  wpAny (model X.prog X.w) X.A (eval iter X.env) (λx O3=>wpAny (model X.prog X.w) X.A (pyIter x) (λit O8=>wpAny (model X.prog X.w) X.A (newList []) (λacc Y2 =>
   wpAny (model X.prog X.w) X.A (newFunctionEnv scope X.env.globals (zBh X.env scope.names []) [] X.env.qual none .none (some X.env)) (λcenv Y4 =>
    codeAny (model X.prog X.w) X.A (.compStart (.ListComp elt [⟨tg,iter,ifs,0⟩] scope pos) 0 it acc { cenv with scope:=relabel scope X.env }) (RR acc cenv.locals) Y4) X.xe Y2) X.xe O8) X.xe O3) X.xe s:=by
 obtain⟨wi,hwi,hI⟩:=hi;refine zH7 hcalm hwi cs hm I (L:=λJ H2 n i B' H' vs=>(Same H H2/\∀ (i:Nat) H3,i<=zs.length->Same (hide H2 S) H3->(i=zs.length->J.stop i H3)/\(i < zs.length->J.go i H3/\∀ v H4,J.yld i H3 v H4->H4=H3/\∀ x,zs[i]?=some x->Den X.K (hide H2 S) x v)) /\
   ∃ (G':Dst) (done more:List DL.D),DS X.K H' S B' G'/\Same H2 H'/\DenL X.K (hide H' S) done vs/\zCa t c e (zs.drop i) G'=some more/\done++more=ys/\i<=zs.length/\done.length<=i/\n=zs.length - i) (Z:=λH2 H' vs=>Same H H2/\Same H2 H'/\DenL X.K (hide H' S) ys vs)
  (hI B H S G zs _ ds ez λJ H1 s1 hJ=>⟨_,⟨s1,hJ⟩,_,[],ys,(ds.mono s1).ext ms xs.length,Same.refl _,.nil,by rw[List.drop_zero];exact ey,rfl,zero_le _,le_refl _,rfl⟩) (λ{J H2 n i B' H' vs} ll=>?_) (λ{J H2 n i B' H' vs} s3 fp ll=>?_) λD C s1 H'' m h1 h2 h3 h4 h5 h6 h7 h8 ll=>?_
 .obtain ⟨_,G',done,more,_,_,dn,_,_,hi',hl',_⟩:=ll;rw[<- dn.length];exact le_trans hl' (le_trans hi' hz)
 .obtain ⟨⟨s12,hJ⟩,G',done,more,ds',sm,dn,ec,ed,hi',hl',rfl⟩:=ll;obtain⟨j1,j2⟩:=hJ i H' hi' (zAa.trans sm);by_cases hlt:i < zs.length
  case neg =>
   rw[drop_eq_nil_of_le (by omega)] at ec;cases ec;rw[append_nil] at ed;exact .inl ⟨j1 (by omega),s12,sm,ed▸dn⟩
  obtain⟨go,yl⟩:=j2 hlt;refine .inr ⟨zs.length - (i+1),by omega,go,λx H5 y5=>?_⟩;obtain⟨rfl,hv⟩:=yl x H5 y5;refine⟨rfl,λY eY pn s5 u E I5 r5=>?_⟩;subst eY;rw[List.drop_eq_getElem_cons hlt] at ec;obtain⟨O5,e1,ec⟩:=bind_some ec;obtain⟨b,eb,ec⟩:=bind_some ec;obtain⟨g,hg1,hg2⟩:=hg s3 H2 fp;have dx:Den X.K (hide H5 S) zs[i] x:=(hv _ (by simp[hlt])).mono (zAM sm);refine wpAny_mono (hg1 pn s5 B' H5 x u _ I5 r5 (hg2 X.K rfl zs[i] x B' H5 S G' O5 (λB6 H6=>H6=H5/\DS X.K H5 S B6 O5) ds' dx e1 λB6 d6=>⟨rfl,d6⟩)) (λ_ s6 zz71=>?_) λ_ _ z=>z.elim
  obtain⟨B6,H6,I6,q6,ds6⟩:=zz71;subst q6;refine wpAny_mono (hc s3 H2 fp pn s6 B6 H6 (λb' H7=>b'=b/\Same H6 H7) I6 ⟨S,O5,b,ds6,eb,λH7 s7=>⟨rfl,s7⟩⟩) (λok s7 zz72=>?_) λ_ _ z=>z.elim
  obtain⟨H7,I7,q7,s67⟩:=zz72;subst q7;cases ok with
  | false =>
   rw[if_neg qY] at ec ⊢;exact⟨B6,H7,I7,⟨s12,hJ⟩,O5,done,more,ds6.mono s67,sm.trans s67,dn.mono (zAM s67),ec,ed,hlt,Nat.le_succ_of_le hl',rfl⟩
  | true =>
   rw[if_pos rfl] at ec ⊢;obtain⟨r,er,ec⟩:=bind_some ec;by_cases hr:r.2=.dt
   .rw [if_pos hr] at ec;cases ec
   rw[if_neg hr] at ec;obtain⟨more',em,ec⟩:=bind_some ec;cases ec;refine wpAny_mono (he s3 H2 fp pn s7 B6 H7 (λv H8=>Same H7 H8/\RV X.K H7 H8 S r v) I7 ⟨S,O5,r,ds6.mono s67,er,λv H8 s8 r8=>⟨s8,r8⟩⟩) (λuv s8 zz73=>?_) λ_ _ z=>z.elim
   obtain⟨v,H8,I8,rv8,s78,r8⟩:=zz73;exact⟨v,B6,H8,I8,rv8,⟨s12,hJ⟩,O5,done++[r.1],more',ds6.mono (s67.trans s78),sm.trans (s67.trans s78),(dn.mono (zAM (s67.trans s78))).append (.cons (RV.den (d:=r.1) (k:=r.2) r8 hr) .nil),em,by rw[q0];exact ed,hlt,by rw[qQ,length_singleton];omega,rfl⟩
 .obtain ⟨H2,H',vs,⟨s12,sm,dn⟩,H2D,HD,rfl⟩:=ll;have neD:∀ {b:Addr} {o:HO},H' b=some o->b≠D:=λ{b o} q z=>by rw[z,HD] at q;cases q
  refine fin D C s1 _ m h1 h2 h3 h4 h5 h6 h7 h8 (λb o q=>?_) ⟨D,vs,ys,rfl,rfl,λz=>?_,s12.free H2D,zAP,dn.mono λb o q=>?_⟩
  .have w:=sm b o (s12 b o q);rw[zAN (neD w)];exact w
  .obtain ⟨ws,w,_⟩:=(ds.mono s12).sok D z;rw[H2D] at w;cases w
  .obtain ⟨q1,q2⟩:=zAs q;rw[zAL λz=>(mem_cons.mp z).elim (neD q2) q1,zAN (neD q2)];exact q2
theorem zCX (cs:zCB sc scope):∀ x∈scope.names,x.2=.local->scope.names.lookup x.1=some .local:=λx hx e=>by
 have:=zCU cs.nd hx
 simp_all
theorem zKZ (hcalm:X.calm=true)(hi:GI X tg iter f)(hs:∀ x,foldedSetIterable iter X.env x=pure x)(cs:zCB X.env.scope scope)
  (hm:∀ (i:Nat) x,X.N[i]?=some x->ownB scope x=true->i∈ms)
  (hg:∀ s H fp,GG (zAR X (mask (noN X.N) ms X.N++xs) scope s H fp) tg t)
  (hc:∀ s H fp,GCs (zAR X (mask (noN X.N) ms X.N++xs) scope s H fp) ifs c) (he:∀ s H fp,GE (zAR X (mask (noN X.N) ms X.N++xs) scope s H fp) elt e) :
  GE X (.ListComp elt [⟨tg,iter,ifs,0⟩] scope pos) (zIo ms xs.length f t c e):=by
 intro pins s B H Q I ⟨S,G,z,ds,ez,cc⟩;obtain⟨zs,e1,ez⟩:=bind_some ez;by_cases hz:zs.length<=10000
 .rw [if_pos hz] at ez;obtain⟨ys,e2,ez⟩:=bind_some ez;cases ez;refine wpAny_comprehension_free (use:=none) rfl hs (zBL (zEC I cs)) cs.kind (zCX cs) ?_;refine zGK hcalm hi cs hm hg hc he I ds e1 hz e2 λD C s1 H'' m ns hI _ _ _ _ _ _ sm rv=>?_
  exact⟨m,ns,λh' sb=>⟨.ref D,H'',hI h' sb,rfl,cc _ H'' sm rv⟩⟩
 .simp_all
theorem zPe (hcalm:X.calm=true)(hi:GI X tg iter f)(hs:∀ x,foldedSetIterable iter X.env x=pure x)(cs:zCB X.env.scope scope)
  (hm:∀ (i:Nat) x,X.N[i]?=some x->ownB scope x=true->i∈ms)
  (hg:∀ s H fp,GG (zAR X (mask (noN X.N) ms X.N++xs) scope s H fp) tg t)
  (hc:∀ s H fp,GCs (zAR X (mask (noN X.N) ms X.N++xs) scope s H fp) ifs c) (he:∀ s H fp,GE (zAR X (mask (noN X.N) ms X.N++xs) scope s H fp) elt e)
  (hN:X.N.Nodup) (hy:X.N[i]?=some y) (hl:Loc X.env.scope y) (hf:X.fn y=true\/X.env.scope.names.lookup y=some .local) :
  GS X (.Assign [.Name y py] (.ListComp elt [⟨tg,iter,ifs,0⟩] scope pos) spos) (setD i (zIo ms xs.length f t c e)):=by
 have hge:GE X (.ListComp elt [⟨tg,iter,ifs,0⟩] scope pos) (zIo ms xs.length f t c e):=zKZ hcalm hi hs cs hm hg hc he;have hb:∃ b,swapsWith (.ListComp elt [⟨tg,iter,ifs,0⟩] scope pos) (some (.Name y py)) spos.line X.env=pure b:=⟨_,rfl⟩;obtain⟨b,hb⟩:=hb;cases b with
 | false=>exact zN7 hN hy hl hge hb hf
 | true =>
  intro H0 pins s B H E I ⟨S,G,o,ds,h0,eo,p⟩;obtain⟨r,er,eo⟩:=bind_some eo;obtain⟨zs,e1,ez⟩:=bind_some er;by_cases hz:zs.length<=10000
  .rw [if_pos hz] at ez;obtain⟨ys,e2,ez⟩:=bind_some ez;cases ez;rw[exec_Assign_Name_used _ _ _ _ hb];refine qX (wpAny_standAt (qX ?_));show wpAny _ X.A (do let _<-comprehension (.ListComp elt [⟨tg,iter,ifs,0⟩] scope pos) scope X.env _ (newList []) false (eval iter X.env) (some (assign (.Name y py) X.env))) _ _ s;refine qX (wpAny_mono (wpAny_comprehension_free (use:=some (assign (.Name y py) X.env)) (Q:=λ_ s'=>SP X pins E .next s') rfl hs (zBL (zEC I cs)) cs.kind (zCX cs) ?_) (λ_ s' hq=>xy (xy hq)) λ_ _ e=>e);refine zGK (RR:=λacc C=>compPost (model X.prog X.w) X.A X.xe (some (assign (.Name y py) X.env)) (λ_ s'=>SP X pins E .next s') acc C) hcalm hi cs hm hg hc he I ds e1 hz e2 λD C s1 H'' m ns hI hC1 hC2 hC3 hC4 hC5 hC6 sm rv=>?_
   have I1:Inv X pins B H'' s1:=hI s1.heap (Heap.SameBut.refl ..);obtain⟨oC,es,ep,ho,hd,w3⟩:=id ns;have I2:Inv X (pins++[(C,oC)]) B H'' s1:=I1.pins_of λq hq=>(mem_append.mp hq).elim (λz=>I1.pin q (xj _ z)) λz=>by
    have e:q=(C,oC):=by simpa using z
    subst e;exact⟨ho,hC1,hC2,hC3,λv z=>by rw[hd] at z;cases z⟩
   show wpAny (model X.prog X.w) X.A (assign (.Name y py) X.env (.ref D)) _ X.xe s1;refine thn (zFN hN hy hl hf _ s1 B H'' (.ref D) (.ref D) (λB6 H6=>H6=H''/\B6=B.set i (some (.ref D))) I2 rfl ⟨rfl,rfl⟩) λ_ s6 zz74=>?_
   obtain⟨B6,H6,I6,q1,q2⟩:=zz74;subst q1 q2;have pc:=I6.pin (C,oC) (xj _ (xj _ (by simp)));refine⟨m,⟨oC,es,ep,pc.1,hd,w3⟩,λh' sb=>?_⟩;refine⟨_,H6,I6.unpinned.turned (it:=C) (t':=s6.toks) (λb o hb q=>sb.extBut b o hb q) hC1 (Ne.symm (Ne.symm hC2)) (.inr hC4) hC5 hC6,?_⟩;exact zEP ds h0 sm rv eo p
  .rw [if_neg hz] at ez;cases ez
end
section
variable {X:Cx}{tg:Expr}
def iAny (K:W.Frag)(tl:TE):TI:=λB H R=>tl B H λx H1=>∃ a,x=.ref a/\(((∃ xs,SqL K H1 a xs)/\R (Itl K a) H1)\/((∃ xs,SqT K H1 a xs)/\R (Itt K a) H1))
theorem zNo (hl:PE X l tl):PI X tg l (iAny X.K tl):=by
 intro pins s B H R I h;refine thn (hl pins s B H _ I h) λv s1 zz75=>?_
 obtain⟨x,H1,I1,r1,q1⟩:=zz75;obtain⟨a,e,q⟩:=q1;subst e;cases r1;rcases q with ⟨⟨xs,hq⟩,q⟩ | ⟨⟨xs,hq⟩,q⟩
 .obtain ⟨its,rv,p,hz⟩:=I1.list hq;refine wpAny_pyIter_list p.isList ?_;refine⟨s1.heap.objs.size,[s1.heap.objs.size],_,_,H1,rfl,I1.kept (t':=s1.toks) λb o e=>get?_push_of_some _ e,zI1 a _,⟨_,get?_push_size _ rfl,rfl,rfl⟩,λb hb=>?_,q⟩;have e:b=s1.heap.objs.size:=by simpa using hb
  subst e;exact I1.fpOk (le_refl _) (I1.hok.fresh (le_refl _))
 .obtain ⟨its,rv,p,hz⟩:=I1.tuple hq;refine wpAny_pyIter_tuple (show s1.heap.IsTuple a its.toArray from p) ?_;refine⟨s1.heap.objs.size,[s1.heap.objs.size],_,_,H1,rfl,I1.kept (t':=s1.toks) λb o e=>get?_push_of_some _ e,zIJ a _,⟨_,get?_push_size _ rfl,rfl,rfl⟩,λb hb=>?_,q⟩;have e:b=s1.heap.objs.size:=by simpa using hb
  subst e;exact I1.fpOk (le_refl _) (I1.hok.fresh (le_refl _))
noncomputable def zGB (f:Dst->Option R):Dst->Option (List D):=λG=>match f G with
 | some (.lst ds,.cl)=>some ds
 | some (.lst ds,.fr)=>some ds
 | some (.tup ds,.cl)=>some ds
 | _=>none
theorem zSN (h:GE X iter f):GI X tg iter (zGB f):=by
 refine⟨_,zNo h,λB H S G xs Rr ds e q=>?_⟩;have fin:∀ {k:Kd},k≠.dt->f G=some (.lst xs,k)->iAny X.K (gT X.K f) B H Rr:=λ{k} hk ef=>by
  refine⟨S,G,_,ds,ef,λv H1 s1 r1=>?_⟩;have d1:=RV.den (d:=.lst xs) (k:=k) r1 hk;rw[Den] at d1;obtain⟨a,vs,rfl,w1,w2⟩:=d1;refine⟨a,rfl,.inl ⟨⟨vs,zAa.seq w1⟩,q _ H1 s1 λi H2 hi k2=>?_⟩⟩;have w3:=k2.seq w1;refine⟨λei=>⟨vs,w3,by rw[<- w2.length,ei];exact le_refl _⟩,λhl=>?_⟩;have hlv:i < vs.length:=by rw[<- w2.length];exact hl
  refine⟨⟨vs,vs[i],w3,by simp[hlv]⟩,λv H3 y=>⟨y.1,λx ex=>?_⟩⟩;have yv:=y.2 vs w3;obtain⟨u,q1,q2⟩:=w2.get ex
  simp_all
 unfold zGB at e;split at e
 .rename_i q1;cases e;exact fin (by decide) q1
 .rename_i q1;cases e;exact fin (by decide) q1
 .rename_i q1;cases e;refine⟨S,G,_,ds,q1,λv H1 s1 r1=>?_⟩;have d1:Den X.K (hide H1 S) (.tup xs) v:=r1;rw[Den] at d1;obtain⟨a,vs,rfl,w1,w2⟩:=d1;refine⟨a,rfl,.inr ⟨⟨vs,Same.tupS zAa w1⟩,q _ H1 s1 λi H2 hi k2=>?_⟩⟩;have w3:=Same.tupS k2 w1;refine⟨λei=>⟨vs,w3,by rw[<- w2.length,ei];exact le_refl _⟩,λhl=>?_⟩;have hlv:i < vs.length:=by rw[<- w2.length];exact hl
  refine⟨⟨vs,vs[i],w3,by simp[hlv]⟩,λv H3 y=>⟨y.1,λx ex=>?_⟩⟩;have yv:=y.2 vs w3;obtain⟨u,q1,q2⟩:=w2.get ex;rw[yv] at q1;cases q1;exact q2
 .cases e
noncomputable def Itr3 (lo c:Int)(n:Nat):It:=⟨λi _=>i < n,λi H x H'=>H'=H/\x=.int (lo+i*c),λi _=>n<=i⟩
theorem zGZ {P:Program}{w:World}{K:W.Frag}{tg:Expr}(it:Addr)(lo c:Int)(n:Nat):Turn P w K tg (Itr3 lo c n) [it] it (λi h=>IsRangeIter h it (lo+(i:Nat)*c) ((n:Int) - (i:Nat)) c) where
 mem:=by simp
 obj:=λi h st b hb=>by
  simp_all
 keep:=λi h h' st k=>k it (by simp) _ st
 item:=by
  intro X hP hw hK hc i pins s B H E I hf st hg;subst hP hw hK;obtain⟨f0,f1,f2,f3,f4,f5⟩:=hf it (by simp);have W:=Walks.range (prog:=X.prog) (w:=X.w) (I.ok.hd hc) it lo c n;refine W.item i s _ _ hg st λv h' tk hv st' kk=>?_
  obtain⟨t,rfl⟩:=hv;have I1:Inv X pins B H { s with heap:=h',toks:=tk }:=I.turned (λb o hb e=>kk b o (by simpa using hb) e) f0 f1 f3 f4 f5;exact⟨_,rfl,zMi (s:={ s with heap:=h',toks:=tk }) (n := "range_iterator") st' rfl rfl (by decide) ⟨.int (lo+i*c),H,I1,⟨t,rfl⟩,⟨rfl,rfl⟩,st',λb hb=>(hf b hb).1⟩⟩
 done:=by
  intro X hP hw hK hc i pins s B H E I hf st hg;subst hP hw hK;obtain⟨f0,f1,f2,f3,f4,f5⟩:=hf it (by simp);exact wpAny_pyNext_range_end (I.ok.hd hc) st (by have:n<=i:=hg;omega) λh' eb=>⟨rfl,I.turned (t':=s.toks) (λb o hb e=>eb b o hb e) f0 f1 f3 f4 f5⟩
 self:=λ_ _ _ _ _ st h=>wpAny_pyIter_rangeiter st h
theorem zGd (a b c:Int)(hc:c≠0):0<=Builtin.Range.rangeSize a b c:=by
 unfold Builtin.Range.rangeSize;split
 .split
  .have:=Int.ediv_nonneg (a:=b - a - 1) (b:=c) (by omega) (by omega);omega
  .simp
 .split
  .have:=Int.ediv_nonneg (a:=a - b - 1) (b:=-c) (by omega) (by omega);omega
  .simp
def ROk (a b c:Int):Prop:=c≠0/\c.natAbs < 1073741824/\Builtin.Range.small a b c=true
noncomputable instance (a b c:Int):Decidable (ROk a b c):=by unfold ROk;exact inferInstance
theorem zJU {R:It->Hp->Prop}{lo:Int}(I:Inv X pins B H s)(ok:ROk lo hi c)
  (q:R (Itr3 lo c (Builtin.Range.rangeSize lo hi c).toNat) H):wpAny (model X.prog X.w) X.A (pyIter (.ref s.heap.objs.size)) (PIE X pins B tg R) E { s with heap:=s.heap.push { cls:=.type "range",data:=.fields #[.int lo t,.int hi u,.int c v] },toks:=tk }:=by
 refine wpAny_pyIter_range (IsRange.new ..) ok.2.2 ?_;have I1:Inv X pins B H { s with heap:=s.heap.push { cls:=.type "range",data:=.fields #[.int lo t,.int hi u,.int c v] },toks:=tk }:=I.kept λb o e=>get?_push_of_some _ e
 refine⟨(s.heap.push { cls:=.type "range",data:=.fields #[.int lo t,.int hi u,.int c v] }).objs.size,[(s.heap.push { cls:=.type "range",data:=.fields #[.int lo t,.int hi u,.int c v] }).objs.size],_,_,H,rfl,
  I1.kept λb o e=>get?_push_of_some _ e,zGZ _ lo c (Builtin.Range.rangeSize lo hi c).toNat,?_,λb hb=>?_,q⟩
 .have e1:lo+((0:Nat):Int)*c=lo:=by simp
  have e2:(((Builtin.Range.rangeSize lo hi c).toNat:Nat):Int) - ((0:Nat):Int)=Builtin.Range.rangeSize lo hi c:=by have:=zGd lo hi c ok.1;omega
  rw[e1,e2];exact get?_push_size _ rfl
 .have e:b=(s.heap.push { cls:=.type "range",data:=.fields #[.int lo t,.int hi u,.int c v] }).objs.size:=by simpa using hb
  subst e;exact I1.fpOk (le_refl _) (I1.hok.fresh (le_refl _))
def zT1 (ta:TA):TI:=λB H R=>ta B H λvs H1=>∃ i j c:Int,vs=[.int i,.int j,.int c]/\ROk i j c/\R (Itr3 i c (Builtin.Range.rangeSize i j c).toNat) H1
theorem zJZ (hg:Gl X "range")(hm:X.mg "range"=none)(ha:PA X [a,b,c] ta)(hs:starEach [a,b,c] X.env=[(false,eval a X.env),(false,eval b X.env),(false,eval c X.env)])(hs2:starEach [b,c] X.env=[(false,eval b X.env),(false,eval c X.env)]) :
  PI X tg (.Call (.Name "range" p) [a,b,c] [] pos) (zT1 ta):=by
 intro pins s B H R I h;refine Call_ (zCe I hg hm boot_range (PyProof.Rows.callWith_type1 (thn (ha pos pins s B H _ I h) λus s1 zz76=>?_) (by rw[hs,hs2]) (by rw[hs2];rfl)));obtain⟨vs,H1,I1,r1,q1⟩:=zz76;obtain⟨i,j,k,e,ok,q⟩:=q1;subst e;cases r1 with
 | cons r rr =>
  cases rr with
  | cons r' rr =>
   cases rr with
   | cons r'' rr =>
    cases rr;obtain⟨t,rfl⟩:=r;obtain⟨t',rfl⟩:=r';obtain⟨t'',rfl⟩:=r'';exact call_range_3 ok.1 (zJU I1 ok q) (.inl (PyProof.noPylong_small ok.2.1))
noncomputable def rngS (lo c:Int)(n:Nat):List D:=(List.range n).map λ(k:Nat)=>D.int (lo+k*c)
theorem zIQ {K:W.Frag}{lo:Int}(i:Nat)(H2:Hp)(hi:i<=(rngS lo c n).length):(i=(rngS lo c n).length->(Itr3 lo c n).stop i H2)/\(i < (rngS lo c n).length->(Itr3 lo c n).go i H2/\∀ v H3,(Itr3 lo c n).yld i H2 v H3->H3=H2/\∀ x,(rngS lo c n)[i]?=some x->Den K (hide H1 S) x v):=by
 have hl:(rngS lo c n).length=n:=by unfold rngS;simp
 refine⟨λe=>by rw[hl] at e;exact Nat.le_of_eq e.symm,λh=>⟨by rw[hl] at h;exact h,λv H3 y=>⟨y.1,λx ex=>?_⟩⟩⟩;rw[hl] at h;have:(rngS lo c n)[i]?=some (D.int (lo+i*c)):=by unfold rngS;simp[h]
 rw[this] at ex;cases ex;exact y.2
def zJM (f g h:Dst->Option R):Dst->Option (List D):=λG=>match f G,g G,h G with
 | some (.int i,_),some (.int j,_),some (.int c,_)=>if ROk i j c then some (rngS i c (Builtin.Range.rangeSize i j c).toNat) else none
 | _,_,_=>none
theorem zKU (hg:Gl X "range")(hm:X.mg "range"=none)(ha:GE X a f)(hb:GE X b g)(hc:GE X c h)(hs:starEach [a,b,c] X.env=(false,eval a X.env)::starEach [b,c] X.env)(hs2:starEach [b,c] X.env=(false,eval b X.env)::starEach [c] X.env)(hs3:starEach [c] X.env=[(false,eval c X.env)]) :
  GI X tg (.Call (.Name "range" p) [a,b,c] [] pos) (zJM f g h):=by
 refine⟨_,zJZ hg hm (zAU ha (zAU hb (zAU hc zA1 hs3) hs2) hs) (by simp_all) (by rw[hs2,hs3]),λB H S G xs Rr ds e q=>?_⟩;unfold zJM at e;split at e
 .rename_i i k j k2 c' k3 ei ej ec;by_cases hj:ROk i j c'
  .rw [if_pos hj] at e;cases e;exact⟨S,G,_,ds,ei,λv H1 s1 r1=>⟨S,G,_,ds.mono s1,ej,λu H2 s2 r2=>⟨S,G,_,ds.mono (s1.trans s2),ec,λu3 H3 s3 r3=>⟨i,j,c',by rw[r1.rd.int,r2.rd.int,r3.rd.int],hj,q _ H3 (s1.trans (s2.trans s3)) λi H2 hi _=>zIQ i H2 hi⟩⟩⟩⟩
  .simp_all
 .cases e
end
end DL
end
section
namespace DL
open PySem
abbrev zCQ (h:Heap) (z TI TO:Addr) (f0 f1:Value):Prop :=
 h.get? z=some { cls:=.type "zip",dict:=none,data:=.fields #[f0,f1,.bool false,.ref TI,.ref TO],slots:=#[] }
section
variable {prog:Program}{w:World}{A:Around}{E:Value->Shared->Prop}{s:Shared}
theorem zLp (h:Q (s.heap.get? a) s):wpAny M A (loadIfAlive a) Q E s:=λJ p U6=>by
 assumption
theorem zEV {T:Addr}(hz:zCQ s.heap z TI TO (rawInt T) (.bool f1))(hT:s.heap.get? T=some oT)
  (hQ:∀ h' f1',zCQ h' z TI TO (rawInt T) (.bool f1')->Heap.SameBut z s.heap h'->Q false { s with heap:=h' }) :
  wpAny (model prog w) A (Builtin.SmallTypes.ownedTupleIsFree (.ref z)) Q E s:=by
 refine qX (wpAny_field hz rfl (x:=rawInt T) rfl ?_);refine qX (zLp ?_);rw[toNat_natCast,hT];refine qX (wpAny_field hz rfl (x:=.bool f1) rfl ?_);cases f1 with
 | true =>
  have e:((Value.bool true) != .bool true)=false:=by simp
  rw[e];exact xy (hQ s.heap true hz (Heap.SameBut.refl ..))
 | false =>
  have e:((Value.bool false) != .bool true)=true:=by simp
  rw[e];simp only[if_true];refine qX (wpAny_setField_rec hz (by simp) λO7 hz1 Y1=>?_);exact xy (hQ O7 true hz1 Y1)
theorem zE6 {T:Addr}{Q:Value->Shared->Prop}(D:ZipApart z TI TO i1 i2 l1 l2)
  (hz:zCQ s.heap z TI TO (rawInt T) (.bool f1)) (hT:s.heap.get? T=some oT) (hTI:IsPair s.heap TI (.ref i1) (.ref i2))
  (h1:s.heap.IsListIter i1 l1 k1) (h2:s.heap.IsListIter i2 l2 k2) (hl1:s.heap.IsList l1 xs) (hl2:s.heap.IsList l2 ys) (hx:xs[k1]?=some x) (hy:ys[k2]?=some y)
  (hQ:∀ h' f1',zCQ h' z TI TO (rawInt T) (.bool f1')->h'.IsListIter i1 l1 (k1+1)->h'.IsListIter i2 l2 (k2+1)->IsPair h' s.heap.objs.size x y->h'.objs.size=s.heap.objs.size+1 ->
   (∀ c o,c≠z->c≠i1->c≠i2->s.heap.get? c=some o->h'.get? c=some o)->Q (.ref s.heap.objs.size) { s with heap:=h' }) :
  wpAny (model prog w) A (Builtin.«zip.__next__» ⟨[.ref z],[]⟩) (λfin s'=>∃ v,fin=.done (.ret v)/\Q v s') E s:=by
 show wpAny _ _ (field (.ref z) 2>>=_) _ _ _;refine qX (wpAny_field hz rfl (x:=.bool false) rfl ?_);show wpAny _ _ (field (.ref z) 3>>=_) _ _ _;refine qX (wpAny_field hz rfl (x:=.ref TI) rfl ?_);refine qX (wpAny_seqItems hTI rfl ?_);show wpAny _ _ (Builtin.SmallTypes.ownedTupleIsFree (.ref z)>>=_) _ _ _;refine qX (zEV hz hT λO7 f1' hz1 Y1=>?_);simp only[Bool.false_eq_true,if_false];refine qX ?_;simp only[<- Array.forIn_toList,forIn_cons,List.forIn_nil];refine qX (qX (wpAny_holding ?_));show wpAny _ _ (Builtin.SmallTypes.nextOf (.ref i1)>>=_) _ _ _;refine qX (wpAny_nextOf_list_item (h1.extBut Y1.extBut D.i1z) (hl1.extBut Y1.extBut D.l1z) hx λY8 U4 Y7=>xy ?_);refine xy ?_;refine qX (qX (wpAny_holding ?_));show wpAny _ _ (Builtin.SmallTypes.nextOf (.ref i2)>>=_) _ _ _;refine qX (wpAny_nextOf_list_item ((h2.extBut Y1.extBut D.i2z).extBut Y7.extBut D.i12.symm) ((hl2.extBut Y1.extBut D.l2z).extBut Y7.extBut D.l2i1) hy λY9 U5 Z3=>xy ?_);refine xy (xy ?_);refine qX (wpAny_newTuple ?_ (show 2<=sizeLine by decide));have hsz:Y9.objs.size=s.heap.objs.size:=by rw[Z3.1,Y7.1,Y1.1]
 have hz3:zCQ Y9 z TI TO (rawInt T) (.bool f1'):=Z3.extBut _ _ D.i2z.symm (Y7.extBut _ _ D.i1z.symm hz1);refine xy ⟨_,rfl,?_⟩;show Q (.ref Y9.objs.size) _;rw[hsz];refine hQ _ f1' (get?_push_of_some _ hz3) ((U4.extBut Z3.extBut D.i12).at λo e=>get?_push_of_some _ e) (U5.at λo e=>get?_push_of_some _ e) ?_ (by rw[Heap.size_push,hsz]) λc o c1 c2 c3 e=>get?_push_of_some _ (Z3.extBut _ _ c3 (Y7.extBut _ _ c2 (Y1.extBut _ _ c1 e)))
 rw[<- hsz];exact get?_push_size _ rfl
theorem zE5 {T:Addr}{k2:Nat}{ys:Array Value}(hh:A.handled=none)(D:ZipApart z TI TO i1 i2 l1 l2)
  (hz:zCQ s.heap z TI TO (rawInt T) (.bool f1)) (hT:s.heap.get? T=some oT) (hTI:IsPair s.heap TI (.ref i1) (.ref i2))
  (h1:s.heap.IsListIter i1 l1 k1) (hl1:s.heap.IsList l1 xs) (hend:xs[k1]?=none)
  (hE:∀ h' e,(∀ c o,c≠z->c≠i1->s.heap.get? c=some o->h'.get? c=some o)->(∃ o,h'.get? e=some o/\o.cls=.type "StopIteration")->E (.ref e) { s with heap:=h' }) :
  wpAny (model prog w) A (Builtin.«zip.__next__» ⟨[.ref z],[]⟩) Q E s:=by
 show wpAny _ _ (field (.ref z) 2>>=_) _ _ _;refine qX (wpAny_field hz rfl (x:=.bool false) rfl ?_);show wpAny _ _ (field (.ref z) 3>>=_) _ _ _;refine qX (wpAny_field hz rfl (x:=.ref TI) rfl ?_);refine qX (wpAny_seqItems hTI rfl ?_);show wpAny _ _ (Builtin.SmallTypes.ownedTupleIsFree (.ref z)>>=_) _ _ _;refine qX (zEV hz hT λO7 f1' hz1 Y1=>?_);simp only[Bool.false_eq_true,if_false];refine qX ?_;simp only[<- Array.forIn_toList,forIn_cons,List.forIn_nil];refine qX (qX (wpAny_holding ?_));show wpAny _ _ (Builtin.SmallTypes.nextOf (.ref i1)>>=_) _ _ _;refine qX (wpAny_nextOf_list_end hh (h1.extBut Y1.extBut D.i1z) (hl1.extBut Y1.extBut D.l1z) hend λY8 e Y7 he=>?_);exact hE Y8 e (λc o c1 c3 x=>Y7 _ _ c3 (Y1.extBut _ _ c1 x)) he
theorem zJz {T:Addr}(D:ZipApart z TI TO i1 i2 l1 l2)
  (hz:zCQ s.heap z TI TO (rawInt T) (.bool f1)) (hT:s.heap.get? T=some oT) (hTI:IsPair s.heap TI (.ref i1) (.ref i2))
  (h1:s.heap.IsListIter i1 l1 k1) (h2:s.heap.IsListIter i2 l2 k2) (hl1:s.heap.IsList l1 xs) (hl2:s.heap.IsList l2 ys) (hx:xs[k1]?=some x) (hy:ys[k2]?=some y)
  (hQ:∀ h' f1',zCQ h' z TI TO (rawInt T) (.bool f1')->h'.IsListIter i1 l1 (k1+1)->h'.IsListIter i2 l2 (k2+1)->IsPair h' s.heap.objs.size x y->h'.objs.size=s.heap.objs.size+1 ->
   (∀ c o,c≠z->c≠i1->c≠i2->s.heap.get? c=some o->h'.get? c=some o)->Q (some (.ref s.heap.objs.size)) { s with heap:=h' }) :
  wpAny (model prog w) A (pyNext (.ref z)) Q E s:=by
 have hTy:s.TypeIs (.ref z) "zip":=⟨_,hz,rfl⟩;exact qX (wpAny_attempt (wpAny_callSpecial?_slot hTy F.slot_zip_next
  (wpAny_call_entry F.slot_zip_next hTy F.entry_zip_next
   (zE6 D hz hT hTI h1 h2 hl1 hl2 hx hy λh' f' a1 a3 a4 a5 a6 a7=>xy (hQ h' f' a1 a3 a4 a5 a6 a7)) (F.args_zip_next_1 _))))
theorem zJy {T:Addr}{k2:Nat}{ys:Array Value}(hh:A.handled=none)(D:ZipApart z TI TO i1 i2 l1 l2)
  (hz:zCQ s.heap z TI TO (rawInt T) (.bool f1)) (hT:s.heap.get? T=some oT) (hTI:IsPair s.heap TI (.ref i1) (.ref i2))
  (h1:s.heap.IsListIter i1 l1 k1) (hl1:s.heap.IsList l1 xs) (hend:xs[k1]?=none)
  (hQ:∀ h',(∀ c o,c≠z->c≠i1->s.heap.get? c=some o->h'.get? c=some o)->Q none { s with heap:=h' }):wpAny (model prog w) A (pyNext (.ref z)) Q E s:=by
 have hTy:s.TypeIs (.ref z) "zip":=⟨_,hz,rfl⟩;refine qX (wpAny_attempt (wpAny_callSpecial?_slot hTy F.slot_zip_next
  (wpAny_call_entry F.slot_zip_next hTy F.entry_zip_next (zE5 (k2:=k2) (ys:=ys) hh D hz hT hTI h1 hl1 hend λh' e hk he=>?_) (F.args_zip_next_1 _))))
 obtain⟨o,ho,hc⟩:=he;refine qX (wpAny_isInstance ⟨o,ho,hc⟩ isSubtype_stop ?_);exact xy (hQ _ hk)
end
theorem zIH:typeLookup (.type "zip") "__len__"=pure none:=by rw[typeLookup_type];kernel_rfl
theorem zGY:typeLookup (.type "zip") "__length_hint__"=pure none:=by rw[typeLookup_type];kernel_rfl
noncomputable def zBr (S n:Nat):Array Value:=((List.range n).map λk=>Value.ref (S+1+k)).toArray
theorem zFo (S n:Nat):(zBr S n).push (.ref (S+1+n))=zBr S (n+1):=by
 unfold zBr;rw[range_succ];simp
theorem zDM (S n:Nat):(zBr S n).size=n:=by unfold zBr;simp
structure ZJ (s:Shared)(S z TI TO i1 i2 l1 l2:Nat)(xs ys:Array Value)(i:Nat)(s':Shared):Prop where
 same:∃ h',s'={ s with heap:=h' }
 size:s'.heap.objs.size=S+1+i
 lst:∃ c,s'.heap.get? S=some { cls:=.type "list",dict:=none,data:=.seq (zBr S i) c,slots:=#[] }
 zip:(i=0/\IsZip s'.heap z TI TO .none)\/(0 < i/\∃ f1,zCQ s'.heap z TI TO (rawInt (S+1:Nat)) (.bool f1))
 ti:IsPair s'.heap TI (.ref i1) (.ref i2)
 tO:∃ a b,IsPair s'.heap TO a b
 it1:s'.heap.IsListIter i1 l1 i
 it2:s'.heap.IsListIter i2 l2 i
 ls1:s'.heap.IsList l1 xs
 ls2:s'.heap.IsList l2 ys
 tup:∀ k x y,k < i->xs[k]?=some x->ys[k]?=some y->IsPair s'.heap (S+1+k) x y
 keep:∀ (c:Nat) o,c≠z->c≠TO->c≠i1->c≠i2->s.heap.get? c=some o->s'.heap.get? c=some o
structure ZEnd (s:Shared)(S z TO i1 i2:Nat)(xs ys:Array Value)(s':Shared):Prop where
 same:∃ h',s'={ s with heap:=h' }
 lst:∃ c,s'.heap.get? S=some { cls:=.type "list",dict:=none,data:=.seq (zBr S xs.size) c,slots:=#[] }
 tup:∀ k x y,xs[k]?=some x->ys[k]?=some y->IsPair s'.heap (S+1+k) x y
 keep:∀ (c:Nat) o,c≠z->c≠TO->c≠i1->c≠i2->s.heap.get? c=some o->s'.heap.get? c=some o
section
variable {prog:Program}{w:World}{A:Around}{E:Value->Shared->Prop}{s:Shared}{R:Result->Shared->Prop}
variable {S z TI TO i1 i2 l1 l2:Nat}{xs ys:Array Value}
theorem zLm (hh:A.in1.handled=none)(D:ZipApart z TI TO i1 i2 l1 l2)(hlen:xs.size=ys.size)(hn:xs.size<=10000)(hz:z < S)(hTI:TI < S)(hTO:TO < S)(hi1:i1 < S)(hi2:i2 < S)(hl1:l1 < S)(hl2:l2 < S)(hfresh:s.heap.objs.size<=S)(res:Value)
  (hR:∀ s',ZEnd s S z TO i1 i2 xs ys s'->R (.ok (.ret res)) s') :
  ∀ (k i:Nat) (s':Shared),xs.size - i=k->i<=xs.size->ZJ s S z TI TO i1 i2 l1 l2 xs ys i s'->codeAny (model prog w) A (.builtin "list.extend.loop" ⟨[.ref S,.ref z,res],[]⟩) R s':=by
 intro k
 induction k with
 | zero =>
  intro i s' hk hi J;have hin:i=xs.size:=by omega
  subst hin;obtain⟨h0,rfl⟩:=J.same;refine codeAny_builtin F.entry_extend_loop ?_;rw[Around.under_plainId F.plain_extend_loop _];show wpAny _ A.in1 (pyNext (.ref z)>>=_) _ _ _;have hend:xs[xs.size]?=none:=by simp
  obtain⟨c,hc⟩:=J.lst;obtain⟨ta,tb,hto⟩:=J.tO;refine qX ?_;have fin:∀ h',(∀ (c:Nat) o,c≠z->c≠TO->c≠i1->c≠i2->h0.get? c=some o->h'.get? c=some o)->R (.ok (.ret res)) { s with heap:=h' }:=λh' kk=>by
   have up:∀ (b:Nat) o,S<=b->h0.get? b=some o->h'.get? b=some o:=λb o hb e=>kk b o (by omega) (by omega) (by omega) (by omega) e
   refine hR _ ⟨⟨h',rfl⟩,⟨c,up S _ (le_refl _) hc⟩,λk x y hx hy=>up _ _ (by omega) (J.tup k x y ?_ hx hy),λb o b1 b2 b3 b4 e=>kk b o b1 b2 b3 b4 (J.keep b o b1 b2 b3 b4 e)⟩;by_cases q:k < xs.size
   .exact q
   .have:xs[k]?=none:=Array.getElem?_eq_none (Nat.le_of_not_lt q);rw[this] at hx;cases hx
  rcases J.zip with ⟨i0,hzz⟩ | ⟨ip,f1,hzz⟩
  .exact wpAny_pyNext_zip_end hh D hzz J.ti hto J.it1 J.it2 J.ls1 J.ls2 (.inl hend) λh' kk=>xy (fin h' kk)
  .have hx0:∃ x,xs[0]?=some x:=⟨xs[0],by simp[ip]⟩;have hy0:∃ y,ys[0]?=some y:=⟨ys[0]'(by omega),Array.getElem?_eq_getElem (by omega)⟩;obtain⟨x0,ex0⟩:=hx0;obtain⟨y0,ey0⟩:=hy0;have t0:=J.tup 0 x0 y0 ip ex0 ey0;rw[Nat.add_zero] at t0;exact zJy (k2:=0) (ys:=ys) hh D hzz t0 J.ti J.it1 J.ls1 hend λh' kk=>xy (fin h' λc o c1 _ c3 _ e=>kk c o c1 c3 e)
 | succ k ih =>
  intro i s' hk hi J;have hlt:i < xs.size:=by omega
  obtain⟨h0,rfl⟩:=J.same;have hx:xs[i]?=some xs[i]:=by simp[hlt]
  have hy:ys[i]?=some (ys[i]'(by omega)):=Array.getElem?_eq_getElem (by omega);refine codeAny_builtin F.entry_extend_loop ?_;rw[Around.under_plainId F.plain_extend_loop _];show wpAny _ A.in1 (pyNext (.ref z)>>=_) _ _ _;obtain⟨c,hc⟩:=J.lst;obtain⟨ta,tb,hto⟩:=J.tO;have hsz:h0.objs.size=S+1+i:=J.size;have go:∀ h',(∀ (c:Nat) o,c≠z->c≠TO->c≠i1->c≠i2->h0.get? c=some o->h'.get? c=some o)->(∃ f1,zCQ h' z TI TO (rawInt (S+1:Nat)) (.bool f1))->(∃ a b,IsPair h' TO a b)->h'.IsListIter i1 l1 (i+1)->h'.IsListIter i2 l2 (i+1) ->
    IsPair h' (S+1+i) xs[i] (ys[i]'(by omega))->h'.objs.size=S+1+i+1 ->
    wpAny (model prog w) A.in1 (updateSeq S (·.push (.ref (S+1+i)))>>=λ_=>again (.builtin "list.extend.loop" ⟨[.ref S,.ref z,res],[]⟩))
     (λfin s'=>match fin with | .done f=>R (.ok f) s' | .again c'=>c'.quiet=true/\codeAny (model prog w) A c' R s') (λe s'=>R (.error e) s') { s with heap:=h' }:=λh' kk hzz hto' ht1 ht2 hp hs'=>by
   have up:∀ (b:Nat) o,S<=b->h0.get? b=some o->h'.get? b=some o:=λb o hb e=>kk b o (by omega) (by omega) (by omega) (by omega) e
   have hc':=up S _ (le_refl _) hc;refine qX ?_;refine wpAny_updateSeq hc' rfl (xy ⟨plainId_quiet F.plain_extend_loop _,ih (i+1) _ (by omega) hlt ?_⟩) (by rw[zDM];exact le_trans (Nat.le_of_lt hlt) (le_trans hn (by decide))) (by show ((zBr S i).push _).size<=sizeLine+1;rw[Array.size_push,zDM];exact Nat.succ_le_succ (le_trans (Nat.le_of_lt hlt) (le_trans hn (by decide))));have oth:∀ (b:Nat) o,b≠S->h'.get? b=some o->(h'.update S (Obj.mapSeq (·.push (.ref (S+1+i))))).get? b=some o:=λb o hb e=>(Heap.get?_update_other _ _ (Ne.symm hb)).trans e
   obtain⟨f1,hzz⟩:=hzz;obtain⟨a',b',hto'⟩:=hto';have ql:∃ c,(h'.update S (Obj.mapSeq (·.push (.ref (S+1+i))))).get? S=some { cls:=.type "list",dict:=none,data:=.seq (zBr S (i+1)) c,slots:=#[] }:=⟨_,by
    rw[<- zFo];exact Heap.get?_update_self (Obj.mapSeq (·.push (Value.ref (S+1+i)))) hc' rfl⟩
   refine⟨⟨_,rfl⟩,?_,ql,.inr ⟨Nat.succ_pos i,f1,oth _ _ (by omega) hzz⟩,oth _ _ (by omega) (kk _ _ D.TIz D.TITO D.TIi1 D.TIi2 J.ti),⟨a',b',oth _ _ (by omega) hto'⟩,ht1.at λo e=>oth _ o (by omega) e,ht2.at λo e=>oth _ o (by omega) e,
    (J.ls1.at λo e=>kk _ o D.l1z D.l1TO D.l1i1 D.l1i2 e).at λo e=>oth _ o (by omega) e,(J.ls2.at λo e=>kk _ o D.l2z D.l2TO D.l2i1 D.l2i2 e).at λo e=>oth _ o (by omega) e,λk x y hk' ex ey=>?_,λb o b1 b2 b3 b4 e=>?_⟩
   .show (h'.update S _).objs.size=_;rw[Heap.size_update,hs'];omega
   .refine oth _ _ (by omega) ?_;by_cases q:k < i
    .exact up _ _ (by omega) (J.tup k x y q ex ey)
    .have:k=i:=by omega
     subst this;rw[hx] at ex;rw[hy] at ey;cases ex;cases ey;exact hp
   .by_cases q:b=S
    .subst q;have:=lt_size e;exact absurd (xY this hfresh) (lt_irrefl _)
    .exact oth b o q (kk b o b1 b2 b3 b4 (J.keep b o b1 b2 b3 b4 e))
  refine qX ?_;rcases J.zip with ⟨i0,hzz⟩ | ⟨ip,f1,hzz⟩
  .subst i0;refine wpAny_pyNext_zip_item D hzz J.ti hto J.it1 J.it2 J.ls1 J.ls2 hx hy λh' a1 a2 a3 a4 a5 a6 a7=>?_
   have e1:({ s with heap:=h0 }:Shared).heap.objs.size=S+1+0:=hsz;rw[e1] at a1 a5 a6 ⊢;exact go h' a7 ⟨false,a1⟩ ⟨_,_,a2⟩ a3 a4 a5 a6
  .have hx0:∃ x,xs[0]?=some x:=⟨xs[0]'(by omega),Array.getElem?_eq_getElem (by omega)⟩;have hy0:∃ y,ys[0]?=some y:=⟨ys[0]'(by omega),Array.getElem?_eq_getElem (by omega)⟩;obtain⟨x0,ex0⟩:=hx0;obtain⟨y0,ey0⟩:=hy0;have t0:=J.tup 0 x0 y0 ip ex0 ey0;rw[Nat.add_zero] at t0;refine zJz D hzz t0 J.ti J.it1 J.it2 J.ls1 J.ls2 hx hy λh' f' a1 a3 a4 a5 a6 a7=>?_
   have e1:({ s with heap:=h0 }:Shared).heap.objs.size=S+1+i:=hsz;rw[e1] at a5 a6 ⊢;exact go h' (λc o c1 _ c3 c4 e=>a7 c o c1 c3 c4 e) ⟨f',a1⟩ ⟨ta,tb,a7 _ _ D.TOz D.TOi1 D.TOi2 hto⟩ a3 a4 a5 a6
end
section
variable {prog:Program}{w:World}{A:Around}{E:Value->Shared->Prop}{s:Shared}
variable {z TI TO i1 i2 l1 l2:Nat}{xs ys:Array Value}
theorem zFg (hh:A.handled=none)(D:ZipApart z TI TO i1 i2 l1 l2)(hz:IsZip s.heap z TI TO .none)(hTI:IsPair s.heap TI (.ref i1) (.ref i2))(hTO:IsPair s.heap TO a b)(h1:s.heap.IsListIter i1 l1 0)(h2:s.heap.IsListIter i2 l2 0)
  (hl1:s.heap.IsList l1 xs) (hl2:s.heap.IsList l2 ys) (hlen:xs.size=ys.size) (hn:xs.size<=10000) (hQ:∀ s',ZEnd s s.heap.objs.size z TO i1 i2 xs ys s'->Q (.ref s.heap.objs.size) s') :
  wpAny (model prog w) A (call (.type "list") [.ref z]) Q E s:=by
 have ltz:z < s.heap.objs.size:=lt_size hz;have ltTI:TI < s.heap.objs.size:=lt_size hTI;have ltTO:TO < s.heap.objs.size:=lt_size hTO;have lt1:i1 < s.heap.objs.size:=by obtain⟨o,e,_⟩:=h1;exact lt_size e
 have lt2:i2 < s.heap.objs.size:=by obtain⟨o,e,_⟩:=h2;exact lt_size e
 have ltl1:l1 < s.heap.objs.size:=by obtain⟨o,e,_⟩:=hl1;exact lt_size e
 have ltl2:l2 < s.heap.objs.size:=by obtain⟨o,e,_⟩:=hl2;exact lt_size e
 refine callType_codes (Q₁:=λobj O3=>obj=.ref s.heap.objs.size/\O3={ s with heap:=s.heap.push { cls:=.type "list",data:=.seq #[] } }) F.called_list (F.typeCall_list_1 _) F.entry_list_init
  (code_list_new _ ⟨rfl,rfl⟩) λobj O3 O7=>?_
 obtain⟨rfl,rfl⟩:=O7;have hS:(s.heap.push { cls:=.type "list",data:=.seq #[] }).get? s.heap.objs.size=some { cls:=.type "list",data:=.seq #[] }:=get?_push_size _ rfl;refine⟨⟨_,hS,rfl⟩,F.args_list_init_2 _ _,?_⟩;show wpAny _ A.in1.in1 (do let old<-Builtin.List.listItems (.ref s.heap.objs.size);Builtin.List.listUpdate (.ref s.heap.objs.size) (λ_=>#[]);letGo old.toList.reverse;Builtin.List.listExtendWith (.ref s.heap.objs.size) (.ref z) .none) _ _ _;refine qX ?_;unfold Builtin.List.listItems;refine qX (wpAny_seqItems hS rfl (xy ?_));show wpAny _ A.in1.in1 (updateSeq s.heap.objs.size (λ_=>#[])>>=λ_=>letGo (#[]:Array Value).toList.reverse>>=λ_=>Builtin.List.listExtendWith (.ref s.heap.objs.size) (.ref z) .none) _ _ _;refine qX (wpAny_updateSeq hS rfl ?_);have hS2:=Heap.get?_update_self (Obj.mapSeq (λ_=>(#[]:Array Value))) hS rfl;refine qX (wpAny_letGo ?_);have e2:∃ h2',h2'=(s.heap.push { cls:=.type "list",data:=.seq #[] }).update s.heap.objs.size (Obj.mapSeq (λ_=>(#[]:Array Value))):=⟨_,rfl⟩;obtain⟨h2',eh2⟩:=e2;rw[<- eh2] at hS2 ⊢;have oth2:∀ (b:Nat) o,b≠s.heap.objs.size->(s.heap.push { cls:=.type "list",data:=.seq #[] }).get? b=some o->h2'.get? b=some o:=λb o hb e=>by rw[eh2];exact(Heap.get?_update_other _ _ (Ne.symm hb)).trans e
 have kp2:∀ (b:Nat) o,s.heap.get? b=some o->h2'.get? b=some o:=λb o e=>oth2 b o (ne_of_lt (lt_size e)) (get?_push_of_some _ e)
 have sz2:h2'.objs.size=s.heap.objs.size+1:=by rw[eh2,Heap.size_update,Heap.size_push]
 unfold Builtin.List.listExtendWith;have hT:({ s with heap:=h2' }:Shared).TypeIs (.ref z) "zip":=⟨_,kp2 _ _ hz,rfl⟩;refine qX (wpAny_typeOf hT ?_);have q1:Builtin.List.listSameRef (.ref s.heap.objs.size) (.ref z)=false:=by
  have:s.heap.objs.size≠z:=Nat.ne_of_gt ltz;simp[Builtin.List.listSameRef,this]
 have q2:(Value.type "zip"==Value.type "list")=false:=by decide
 have q3:(Value.type "zip"==Value.type "tuple")=false:=by decide
 simp only[q1,q2,q3,Bool.or_false,Bool.false_eq_true,if_false];refine qX (wpAny_pyIter_zip (kp2 _ _ hz) ?_);refine qX (wpAny_holding ?_);unfold Builtin.List.listLengthHint;refine qX (wpAny_specialOf hT zIH ?_);show wpAny _ A.in1.in1 (specialOf (Value.ref z) (Str.ofString "__length_hint__")>>=_) _ _ _;refine qX (wpAny_specialOf hT zGY ?_);refine xy ?_;show wpAny _ A.in1.in1 (rule "list.extend.makes-room">>=λ_=>Builtin.List.listTouch (.ref s.heap.objs.size)>>=λ_ =>
  again (.builtin "list.extend.loop" ⟨[.ref s.heap.objs.size,.ref z,.none],[]⟩)) _ _ _
 refine qX (wpAny_rule ?_);refine qX ?_;show wpAny _ A.in1.in1 (updateSeq s.heap.objs.size (·.push .none)>>=λ_=>updateSeq s.heap.objs.size (·.pop)) _ _ _;refine qX (wpAny_updateSeq hS2 rfl ?_);have hS3:=Heap.get?_update_self (Obj.mapSeq (·.push Value.none)) hS2 rfl;refine wpAny_updateSeq (hz:=by seq_fits) hS3 rfl ?_;have hS4:=Heap.get?_update_self (Obj.mapSeq (·.pop)) hS3 rfl;have oth:∀ (b:Nat) o,b≠s.heap.objs.size->h2'.get? b=some o->((h2'.update s.heap.objs.size (Obj.mapSeq (·.push Value.none))).update s.heap.objs.size (Obj.mapSeq (·.pop))).get? b=some o :=
  λb o hb e=>(Heap.get?_update_other _ _ (Ne.symm hb)).trans ((Heap.get?_update_other _ _ (Ne.symm hb)).trans e)
 have kp:∀ (b:Nat) o,s.heap.get? b=some o->((h2'.update s.heap.objs.size (Obj.mapSeq (·.push Value.none))).update s.heap.objs.size (Obj.mapSeq (·.pop))).get? b=some o:=λb o e=>oth b o (ne_of_lt (lt_size e)) (kp2 b o e)
 refine xy ⟨plainId_quiet F.plain_extend_loop _,zLm (s:=s) (A:=A.in1) hh D hlen hn ltz ltTI ltTO lt1 lt2 ltl1 ltl2 (le_refl _) .none (λs' e=>⟨rfl,hQ s' e⟩) xs.size 0 _ rfl (zero_le _) ?_⟩;exact⟨⟨_,rfl⟩,by show (Heap.update _ _ _).objs.size=_;rw[Heap.size_update,Heap.size_update,sz2],⟨_,hS4⟩,.inl ⟨rfl,kp _ _ hz⟩,kp _ _ hTI,⟨a,b,kp _ _ hTO⟩,h1.at λo e=>kp _ o e,h2.at λo e=>kp _ o e,hl1.at λo e=>kp _ o e,hl2.at λo e=>kp _ o e,
  λk x y hk=>absurd hk (Nat.not_lt_zero k),λc o _ _ _ _ e=>kp c o e⟩
end
end DL
end
section
namespace DL
open PySem Spec PyProof.Rows L2
noncomputable def HZ (H:Hp)(S:Nat)(us ws:List V):Hp:=λ(b:Nat)=>if b=S then some (.lst ((List.range us.length).map λk=>V.ref (S+1+k))) else if S+1<=b/\b < S+1+us.length then some (.tup [us.getD (b - (S+1)) .non,ws.getD (b - (S+1)) .non]) else H b
theorem hz_S :HZ H S us ws S=some (.lst ((List.range us.length).map λk=>V.ref (S+1+k))):=if_pos rfl
theorem hz_t {H:Hp}{S k:Nat}{us ws:List V}(hk:k < us.length):HZ H S us ws (S+1+k)=some (.tup [us.getD k .non,ws.getD k .non]):=by
 unfold HZ;rw[if_neg (by omega),if_pos (by omega),Nat.add_sub_cancel_left]
theorem zN6 (hb:b < S):HZ H S us ws b=H b:=by
 unfold HZ;grind
theorem zFp:∀ l:List Nat,Vals (l.map V.ref) (l.map Value.ref)
 | []=>.nil
 | a::l=>.cons rfl (zFp l)
theorem zIy (r:Vals us its)(hk:k < us.length):∃ x,its[k]?=some x/\RelV (us.getD k .non) x:=by
 have e:us[k]?=some (us.getD k .non):=by
  simp_all
 exact r.get e
noncomputable def zipT (xs ys:List D):List D:=List.zipWith (λa b=>D.tup [a,b]) xs ys
noncomputable def zipD (x y:D):Option R:=match x,y with
 | .lst xs,.lst ys=>if xs.length=ys.length/\xs.length<=10000 then some (.lst (zipT xs ys),.fr) else none
 | _,_=>none
section
variable {X:Cx}
theorem zIj (hcalm:X.calm=true)(hgl:Gl X "list")(hml:X.mg "list"=none)(hgz:Gl X "zip")(hmz:X.mg "zip"=none)(ha:GE X a f)(hb:GE X b g)
  (hs:starEach [a,b] X.env=(false,eval a X.env)::starEach [b] X.env) (hs2:starEach [b] X.env=[(false,eval b X.env)]) :
  GE X (.Call (.Name "list" p) [.Call (.Name "zip" p2) [a,b] [] pos2] [] pos) (two f g zipD):=by
 intro pins s B H Q I ⟨S,G,r,ds,e,c⟩;obtain⟨x,ex,e⟩:=bind_some e;obtain⟨y,ey,e⟩:=bind_some e;unfold zipD at e;split at e
 .rename_i xs ys exs eys;by_cases ok:xs.length=ys.length/\xs.length<=10000
  .rw [if_pos ok] at e;cases e;obtain⟨hle,hl10⟩:=ok;refine wpAny_Call_Name_kw (zCe I hgl hml boot_list ?_ (by decide) (by decide));refine PyProof.Rows.callWith_type1 ?_ rfl rfl;show wpAny _ _ (spliced ((false,eval (.Call (.Name "zip" p2) [a,b] [] pos2) X.env)::[])) _ _ s;refine Calls.spliced_cons ?_;refine wpAny_Call_Name_kw (zCe I hgz hmz boot_zip ?_ (by decide) (by decide));refine PyProof.Rows.callWith_type1 (thn ((zAU ha (zAU hb zA1 hs2) hs) pos2 pins s B H (λvs H2=>∃ vx vy,vs=[vx,vy]/\Same H H2/\Rdv X.K H2 S x.1 vx/\Rdv X.K H2 S y.1 vy) I
    ⟨S,G,x,ds,ex,λvx H1 s1 r1=>⟨S,G,y,ds.mono s1,ey,λvy H2 s2 r2=>⟨vx,vy,rfl,s1.trans s2,r1.rd.mono s2,r2.rd⟩⟩⟩) λus s1 ⟨vs,H1,I1,r1,q1⟩=>?_) hs (by rw[hs2];rfl)
   obtain⟨vx,vy,rfl,sm,dx,dy⟩:=q1;rw[exs] at dx;rw[eys] at dy;obtain⟨l1,v1,rfl,w1,d1⟩:=dx.lst;obtain⟨l2,v2,rfl,w2,d2⟩:=dy.lst;obtain⟨u1,u2,rfl,ru1,ru2⟩:=zOU r1;cases ru1;cases ru2;obtain⟨its1,rv1,p1,z1⟩:=I1.list w1;obtain⟨its2,rv2,p2,z2⟩:=I1.list w2;have n1:xs.length=v1.length:=d1.length;have n2:ys.length=v2.length:=d2.length;have m1:=rv1.length;have m2:=rv2.length;have lt1:l1 < s1.heap.objs.size:=by obtain⟨o,q,_⟩:=p1.isList;exact lt_size q
   have lt2:l2 < s1.heap.objs.size:=by obtain⟨o,q,_⟩:=p2.isList;exact lt_size q
   refine call_zip_2 p1.isList p2.isList λh' hz hTI hTO hit1 hit2 hsz hk=>?_
   refine Calls.spliced_nil ?_;refine zFg (s:={ s1 with heap:=h' }) (I.ok.hd hcalm) (zipApart_new lt1 lt2) hz hTI hTO hit1 hit2 (p1.isList.at λo q=>hk _ o q) (p2.isList.at λo q=>hk _ o q) (by rw[xQ,xQ];omega) (by rw[xQ];omega) λs' Z=>?_
   obtain⟨h'',es'⟩:=Z.same;have eS:({ s1 with heap:=h' }:Shared).heap.objs.size=s1.heap.objs.size+5:=hsz;have gS:∃ n0,n0=s1.heap.objs.size:=⟨_,rfl⟩;obtain⟨n0,en0⟩:=gS;rw[eS,<- en0] at Z ⊢;rw[<- en0] at lt1 lt2;subst es';have kp:∀ (b:Nat) o,s1.heap.get? b=some o->h''.get? b=some o:=λb o q=>by
    have hb:b < n0:=by rw[en0];exact lt_size q
    exact Z.keep b o (by omega) (by omega) (by omega) (by omega) (hk b o q)
   obtain⟨cc,hlst⟩:=Z.lst;have lt0:∀ {b:Nat} {o:HO},H1 b=some o->b < n0:=λ{b o} q=>by rw[en0];exact(I1.hok b o q).lt
   have old:∀ {b:Nat} {o:HO},H1 b=some o->HZ H1 (n0+5) v1 v2 b=some o:=λ{b o} q=>by rw[zN6 (by have:=lt0 q;omega)];exact q
   have hn:its1.toArray.size=v1.length:=by rw[xQ];exact m1.symm
   rw[hn] at hlst;have hok:HOk X.prog X.w (HZ H1 (n0+5) v1 v2) h'':=λ(b:Nat) o q=>by
    by_cases c1:b=n0+5
    .subst c1;rw[hz_S] at q;cases q;refine⟨by rw[qy,length_range];exact z1,(List.range v1.length).map λk=>Value.ref (n0+5+1+k),cc,?_,hlst⟩;have:=zFp ((List.range v1.length).map λk=>n0+5+1+k);rw[map_map,map_map] at this;exact this
    .by_cases c2:n0+5+1<=b/\b < n0+5+1+v1.length
     .have eb:b=n0+5+1+(b - (n0+5+1)):=by omega
      have hkl:b - (n0+5+1) < v1.length:=by omega
      rw[eb,hz_t hkl] at q;cases q;obtain⟨ux,ex1,rx⟩:=zIy rv1 hkl;obtain⟨uy,ey1,ry⟩:=zIy rv2 (k:=b - (n0+5+1)) (by omega);have tp:=Z.tup (b - (n0+5+1)) ux uy (by simpa using ex1) (by simpa using ey1);refine⟨by show 2<=sizeLine;decide,[ux,uy],.cons rx (.cons ry .nil),?_⟩;rw[<- eb] at tp;exact⟨_,tp,rfl,_,rfl⟩
     .have q':H1 b=some o:=by
       unfold HZ at q;rw[if_neg c1,if_neg c2] at q;exact q
      exact(I1.hok b o q').stay (λd v _ w=>kp d v w) (λd w=>old w) (λd ws w=>old w) λd ob u w _=>old w
   have gone:∀ (b:Nat) o,s1.heap.get? b=some o->H1 b=none->HZ H1 (n0+5) v1 v2 b=none:=λb o q n=>by
    have hb:b < n0:=by rw[en0];exact lt_size q
    rw[zN6 (by omega)];exact n
   have un:Un X.fs [] H1 (HZ H1 (n0+5) v1 v2) s1.heap h'':=⟨λb o q _ _ _=>kp b o q,λb o q _ _ _=>⟨o.slots,kp b o q⟩,λb o q n _=>gone b o q n,λb o q _=>⟨o,kp b o q⟩,λb ws q=>old q,λb o w q=>old q,λb ps q=>old q⟩;have sH:Same H1 (HZ H1 (n0+5) v1 v2):=λb o q=>old q
   have fr:H1 (n0+5)=none:=I1.hok.fresh (by rw[<- en0];omega);have nS:∀ {b:Nat},b∈S->b < n0:=λ{b} z=>by
    obtain⟨ws,q,_⟩:=(ds.mono sm).sok b z;exact lt0 q
   refine⟨.ref (n0+5),_,I1.un (t':=s1.toks) un hok,rfl,c _ _ (sm.trans sH) ⟨n0+5,_,_,rfl,rfl,λz=>absurd (nS z) (by omega),sm.free fr,hz_S,?_⟩⟩;refine DenL.of_get ?_ λi d v ed ev=>?_
   .unfold zipT;rw[List.length_zipWith,qy,length_range];omega
   .unfold zipT at ed;rw[List.getElem?_zipWith] at ed;rw[getElem?_map] at ev;cases e1:xs[i]? with
    | none=>rw[e1] at ed;simp at ed
    | some dx' =>
     cases e2:ys[i]? with
     | none=>rw[e1,e2] at ed;simp at ed
     | some dy' =>
      rw[e1,e2] at ed;cases ed;have hi:i < v1.length:=by rw[<- n1];exact(zzg e1).1
      rw[getElem?_range hi] at ev;cases ev;obtain⟨va,qa,da⟩:=d1.get e1;obtain⟨vb,qb,db⟩:=d2.get e2;have ga:v1.getD i .non=va:=by rw[getD_eq_getElem?_getD,qa];rfl
      have gb:v2.getD i .non=vb:=by rw[getD_eq_getElem?_getD,qb];rfl
      have up:Same (hide H1 S) (hide (HZ H1 (n0+5) v1 v2) ((n0+5)::S)):=λ(b:Nat) o q=>by
       obtain⟨q1,q2⟩:=zAs q;rw[zAL λz=>(mem_cons.mp z).elim (λz=>by have z':b=n0+5:=z;have:=lt0 q2;omega) q1];exact old q2
      rw[Den];refine⟨n0+5+1+i,[va,vb],rfl,SqT.of ?_,.cons (da.mono up) (.cons (db.mono up) .nil)⟩;rw[zAL λz=>(mem_cons.mp z).elim (λz=>by have z':n0+5+1+i=n0+5:=z;omega) λz=>by have:=nS z;omega,hz_t hi,ga,gb]
  .rw [if_neg ok] at e;cases e
 .cases e
end
def Arr (stack:List Env)(H':Hp)(h0:Heap)(ex:List Addr)(a C:Addr)(h:Heap):Prop :=
 ∃ B:Heap,B.StaysIn h/\B.get? a=none/\h.FunFrames B stack/\(∀ b u,H' b=some u->∃ o,B.get? b=some o)/\(∀ b o,h0.get? b=some o->b∉frs stack->b∉ex->∃ o',B.get? b=some o') /\
  ∃ a0,(∃ fl,h.TracedAtW B a (.ref C) a0 fl)\/(∃ oe vs,h.get? a=some oe/\oe.cls=.ref C/\oe.data=.fields vs/\vs[1]?=some .none/\vs[0]?=some a0)
structure Gone (P:Program)(w:World)(stack:List Env)(ex:List Addr)(H H':Hp)(s s':Shared)(a C:Addr):Prop where
 os:s'.os=s.os
 bare:AllBare s'.gens
 un:Un (frs stack) ex H H' s.heap s'.heap
 hok:HOk P w H' s'.heap
 arr:Arr stack H' s.heap ex a C s'.heap
def GX {T:Type}(X:Cx)(m:Sem T)(f:Dst->Option Str):Prop:=True
abbrev GXs (X:Cx) (st:Stmt) (f:Dst->Option Str):Prop:=GX X (exec st X.env) f
abbrev GXss (X:Cx) (st:List Stmt) (f:Dst->Option Str):Prop:=GX X (execs st X.env) f
section
variable {X:Cx}
theorem zAJ {T:Type}{m:Sem T}:GX X m λ_=>none:=trivial
end
end DL
end
section
namespace DL
open PySem Spec PyProof.Rows L2 PySem.W Builtin Builtin.ObjectAttr Builtin.Getset_descriptor
section
variable {prog:Program}{w:World}{A:Around}{E:Value->Shared->Prop}{h:Heap}{g:Array GenState}{d:Drawn}{t:Nat}{os:OsState}{a C:Addr}{o:Obj}{K:W.Frag}
structure XCls (K:W.Frag)(C:Addr):Prop where
 ga:findIn K (.ref C) "__getattribute__"=some (some (.builtin "BaseException.__getattribute__"))
 gt:findIn K (.ref C) "__getattr__"=some none
 cl:findIn K (.ref C) "__class__"=some (some (.builtin "object.__class__"))
 mo:mroIn K C (.type "object")=some true
 mb:subIn K (.ref C) (.type "BaseException")=some true
 is:(clsIn K C).isSome=true
end
end DL
end
section
namespace DL
open PySem Spec PyProof.Rows L2
end DL
end
section
namespace DL
open PySem Spec PyProof.Rows L2
section
variable {X:Cx}
noncomputable def chD (o o':D->D->Option R)(f g h:Dst->Option R):Dst->Option R:=λG=>(f G).bind λx=>(g G).bind λy=>match o x.1 y.1 with
 | some (.bl true,_)=>(h G).bind λz=>o' y.1 z.1
 | some (.bl false,_)=>some (.bl false,.cl)
 | _=>none
theorem zHd {r r':R2}{o o':D->D->Option R}{f g h:Dst->Option R}(ho:OpD X.K r o)(ho':OpD X.K r' o'){B:St}{H:Hp}{Q:VK}(q:gT X.K (chD o o' f g h) B H Q):zI7 r r' (gT X.K f) (gT X.K g) (gT X.K h) B H Q:=by
 obtain⟨S,G,z,ds,e,c⟩:=q;obtain⟨x,ex,e⟩:=bind_some e;obtain⟨y,ey,e⟩:=bind_some e;refine⟨S,G,x,ds,ex,λvx H1 s1 r1=>⟨S,G,y,ds.mono s1,ey,λvy H2 s2 r2=>?_⟩⟩;split at e
 .rename_i k eo;obtain⟨w,ew,e⟩:=bind_some e;refine ho S H2 x.1 y.1 _ vx vy _ (ds.mono (s1.trans s2)).sok eo (r1.rd.mono s2) r2.rd λv H3 s3 r3=>⟨true,r3.rd.bl,?_⟩
  refine⟨S,G,w,ds.mono (s1.trans (s2.trans s3)),ew,λvw H4 s4 r4=>?_⟩;exact ho' S H4 y.1 w.1 z vy vw Q (ds.mono (s1.trans (s2.trans (s3.trans s4)))).sok e (r2.rd.mono (s3.trans s4)) r4.rd λv' H5 s5 r5=>c v' H5 (s1.trans (s2.trans (s3.trans (s4.trans s5)))) (r5.from (s1.trans (s2.trans (s3.trans s4))))
 .rename_i k eo;cases e;refine ho S H2 x.1 y.1 _ vx vy _ (ds.mono (s1.trans s2)).sok eo (r1.rd.mono s2) r2.rd λv H3 s3 r3=>⟨false,r3.rd.bl,?_⟩
  exact c _ H3 (s1.trans (s2.trans s3)) (.bl _)
 .cases e
noncomputable def chB (op:CmpOp):Bool:=decide (op=.Lt)||decide (op=.LtE)||decide (op=.Gt)||decide (op=.GtE)
theorem zHk (h:chB op'=true):lastMarks [op,op'] [b,c]=false:=by
 unfold chB at h
 simp_all
 rcases h with ((h | h) | h) | h<;>subst h<;>exact zC3 c
theorem zMk (h1:OpR X (compareOp op) r)(h2:OpR X (compareOp op') r')(ho:OpD X.K r o)(ho':OpD X.K r' o')(hm:chB op'=true)
  (ha:GE X a f) (hb:GE X b g) (hc:GE X c h):GE X (.Compare a [op,op'] [b,c] pos) (chD o o' f g h)/\GT X (.Compare a [op,op'] [b,c] pos) (asB (chD o o' f g h)) :=
 ⟨(zMA h1 h2 ha hb hc (zHk hm)).imp λ_ _ _ q=>zHd ho ho' q,(zL5 h1 h2 ha hb hc (zHk hm)).imp λ_ _ _ q=>zHd ho ho' (zG8 q)⟩
noncomputable def zFq:D->Option R
 | .lst ds=>some (.tup ds,.cl)
 | .tup ds=>some (.tup ds,.cl)
 | _=>none
theorem zJf:OpD1 X.K (λxs H Q=>∃ p ys,xs=[.ref p]/\((SqL X.K H p ys/\∀ l,H l=none->Q (.ref l) (upd H l (.tup ys)))\/(SqT X.K H p ys/\Q (.ref p) H))) zFq:=by
 intro S H x z vx Q sok e rx c;unfold zFq at e;split at e
 .cases e;obtain⟨a,vs,rfl,h1,h2⟩:=rx.lst;exact⟨a,vs,rfl,.inl ⟨h1,λp n=>c _ _ (zAQ n _) (.tupNew sok n h2)⟩⟩
 .cases e;rcases rx with h | ⟨a,vs,ds',h1,h2,_⟩
  .have h':=h;obtain⟨a,vs,rfl,h1,h2⟩:=h;exact⟨a,vs,rfl,.inr ⟨Same.tupS zAa h1,c _ H (Same.refl _) h'⟩⟩
  .cases h2
 .cases e
theorem zNN:bootBuiltins "tuple"=some (.type "tuple"):=by decide
end
end DL
namespace DL
open PySem Spec PyProof.Rows L2
noncomputable def extD (i:Nat)(f:Dst->Option R):Dst->Option Out:=λG=>match G[i]? with
 | some (some (.lst xs,true))=>(f G).bind λr=>match r with
  | (.lst ys,.fr)=>if xs.length+ys.length<=10000 then some (.nx (G.set i (some (.lst (xs++ys),true)))) else none
  | _=>none
 | _=>none
theorem zSE (hi:X.N[i]?=some x)(hv:Vis X.env.scope x)(hd:(x==("__debug__":Str))=false)(hcd:(x==("__classdict__":Str))=false)(h:GE X e f)
  (he:starEach [e] X.env=[(false,eval e X.env)]) (hbase:attributeBase (.Name x npos) "extend" X.env (eval (.Name x npos) X.env)=eval (.Name x npos) X.env) (hline:(apos.endLine==cpos.line)=true) :
  GS X (.Expr (.Call (.Attribute (.Name x npos) "extend" apos) [e] [] cpos) pos) (extD i f):=λH0=>(zGl (zOp PySem.F.plainAttrs_list PySem.F.slot_list_extend PySem.F.type_list_extend zJ2 (zC0 hi hv hd hcd) (zAU h zA1 he) hbase (by rw[he];rfl) hline he rfl) rfl).imp λE B H zz77=>by
 obtain⟨S,G,o,ds,h0,e,p⟩:=zz77;unfold extD at e;split at e
 .rename_i xs q;obtain⟨r,er,e⟩:=bind_some e;split at e
  .rename_i ys;by_cases hl:xs.length+ys.length<=10000
   .rw [if_pos hl] at e;cases e;obtain⟨v,q1,q2⟩:=ds.get i _ true q;obtain⟨a,vs,es,rfl,e2,w1,w2,w3⟩:=q2.ownL rfl;cases e2;refine⟨.ref a,q1,.inl ⟨rfl,_,SqL.of w2⟩,S,G,_,ds,er,λy H1 s1 r1=>?_⟩;obtain⟨b,zs,ds',rfl,e3,nb,hb,hb',dl⟩:=r1;cases e3;have w3':=w3.mono (zAM s1 (S:=S));have dl':=dl.mono (zBn (H:=H1) (S:=S) (T:=b::S) λc z=>qJ _ z);have l1:=w3.length;have l2:=dl.length;refine⟨a,b,vs,zs,rfl,rfl,s1 _ _ w2,hb',le_trans (show vs.length+zs.length<=10000 by omega) (by decide),?_⟩;have t:DenL X.K (hide H1 S) (xs++ys) (vs++zs):=w3'.append dl';have d2:=(ds.mono s1).change (i:=i) q q1 t;refine p S B _ d2 ?_;rw[zFW w1];exact h0.trans (zAM s1)
   .rw [if_neg hl] at e;cases e
  .cases e
 .cases e
end DL
namespace DL
open PySem Spec PyProof.Rows L2
section
variable {X:Cx}
structure Tgt (X:Cx)(i:Nat)(x:Str):Prop where
 at_:X.N[i]?=some x
 loc:Loc X.env.scope x
 fn:X.fn x=true\/X.env.scope.names.lookup x=some .local
end
end DL
end
section
namespace DL
open PySem
theorem zIb:typeLookup (.type "list_reverseiterator") "__len__"=pure none:=by rw[typeLookup_type];kernel_rfl
theorem zML:typeLookup (.type "list_reverseiterator") "__length_hint__"=pure (some (.builtin "list_reverseiterator.__length_hint__")):=by rw[typeLookup_type];kernel_rfl
theorem zMK:isSubtype (.type "list_reverseiterator") (.type "list_reverseiterator")=pure true:=by rw[isSubtype_type];kernel_rfl
section
variable {prog:Program}{w:World}{A:Around}{E:Value->Shared->Prop}{s:Shared}{I l:Addr}{items:Array Value}
theorem zMZ (hT:s.TypeIs (.ref I) "list_reverseiterator")(h:Q false s):wpAny M A (Builtin.List.listLengthHint (.ref I)) Q E s:=by
 unfold Builtin.List.listLengthHint;refine qX (wpAny_specialOf hT zIb ?_);show wpAny _ A (specialOf (Value.ref I) (Str.ofString "__length_hint__")>>=_) _ _ _;refine qX (wpAny_specialOf hT zML ?_);have hs:splitId "list_reverseiterator.__length_hint__"=some ("list_reverseiterator","__length_hint__"):=by decide +kernel
 simp only[hs];unfold isInstance;refine qX (qX (wpAny_typeOf hT (wpAny_of_eq zMK ?_)));rw[if_neg (show ¬ ((!true)=true) by decide)];rw[if_pos (by decide +kernel)];rw[if_neg (by decide +kernel)];exact xy h
theorem zFh (hh:A.handled=none)(hne:l≠I)(hit:s.heap.IsRevIter I l ((items.size:Int) - 1))(hl:s.heap.IsList l items)(hn:items.size<=10000)
  (hQ:∀ s' acc' c',Moved (s.heap.objs.size::[I]) (λa b=>b=a) { s with heap:=s.heap.push { cls:=.type "list",data:=.seq #[] } } s' ->
   s'.heap.get? s.heap.objs.size=some { cls:=.type "list",dict:=none,data:=.seq acc' c',slots:=#[] }->ItemsOf (λi v=>items[items.size - 1 - i]?=some v) acc' items.size->Q (.ref s.heap.objs.size) s') :
  wpAny (model prog w) A (call (.type "list") [.ref I]) Q E s:=by
 have W:=(Walks.listRev (prog:=prog) (w:=w) (A:=A.in1.in1) hh I l hne items).toS;have hst:(items.size:Nat)>=0/\True:=⟨zero_le _,trivial⟩;have st0:(λ(i:Nat) (s:Shared)=>i<=items.size/\s.heap.IsRevIter I l ((items.size:Int) - 1 - (i:Int))/\s.heap.IsList l items) 0 s:=⟨zero_le _,by simpa using hit,hl⟩;have ltI:I < s.heap.objs.size:=by obtain⟨o,e,_⟩:=hit;exact lt_size e
 have ltl:l < s.heap.objs.size:=by obtain⟨o,e,_⟩:=hl;exact lt_size e
 have hSf:s.heap.objs.size∉[I,l]:=λhm=>by
  rcases mem_cons.mp hm with e | e
  .exact lt_irrefl _ (e▸ltI)
  .exact lt_irrefl _ ((mem_singleton.mp e)▸ltl)
 have hs:items.size<=sizeLine:=le_trans hn (by decide);refine callType_codes (Q₁:=λobj O3=>obj=.ref s.heap.objs.size/\O3={ s with heap:=s.heap.push { cls:=.type "list",data:=.seq #[] } }) F.called_list (F.typeCall_list_1 _) F.entry_list_init
  (code_list_new _ ⟨rfl,rfl⟩) λobj O3 O7=>?_
 obtain⟨rfl,rfl⟩:=O7;have hS:(s.heap.push { cls:=.type "list",data:=.seq #[] }).get? s.heap.objs.size=some { cls:=.type "list",data:=.seq #[] }:=get?_push_size _ rfl;refine⟨⟨_,hS,rfl⟩,F.args_list_init_2 _ _,?_⟩;show wpAny _ A.in1.in1 (do let old<-Builtin.List.listItems (.ref s.heap.objs.size);Builtin.List.listUpdate (.ref s.heap.objs.size) (λ_=>#[]);letGo old.toList.reverse;Builtin.List.listExtendWith (.ref s.heap.objs.size) (.ref I) .none) _ _ _;refine qX ?_;unfold Builtin.List.listItems;refine qX (wpAny_seqItems hS rfl (xy ?_));show wpAny _ A.in1.in1 (updateSeq s.heap.objs.size (λ_=>#[])>>=λ_=>letGo (#[]:Array Value).toList.reverse>>=λ_=>Builtin.List.listExtendWith (.ref s.heap.objs.size) (.ref I) .none) _ _ _;refine qX (wpAny_updateSeq hS rfl ?_);have hS2:=Heap.get?_update_self (Obj.mapSeq (λ_=>(#[]:Array Value))) hS rfl;refine qX (wpAny_letGo ?_);have oth:∀ b o,b≠s.heap.objs.size->(s.heap.push { cls:=.type "list",data:=.seq #[] }).get? b=some o->((s.heap.push { cls:=.type "list",data:=.seq #[] }).update s.heap.objs.size (Obj.mapSeq (λ_=>(#[]:Array Value)))).get? b=some o :=
  λb o hb e=>(Heap.get?_update_other _ _ (Ne.symm hb)).trans e
 have kp:∀ (b:Nat) o,s.heap.get? b=some o->((s.heap.push { cls:=.type "list",data:=.seq #[] }).update s.heap.objs.size (Obj.mapSeq (λ_=>(#[]:Array Value)))).get? b=some o:=λb o e=>oth b o (ne_of_lt (lt_size e)) (get?_push_of_some _ e)
 have hit2:=hit.at (h':=(s.heap.push { cls:=.type "list",data:=.seq #[] }).update s.heap.objs.size (Obj.mapSeq (λ_=>(#[]:Array Value)))) λo e=>kp I o e
 have hT:({ s with heap:=(s.heap.push { cls:=.type "list",data:=.seq #[] }).update s.heap.objs.size (Obj.mapSeq (λ_=>(#[]:Array Value))) }:Shared).TypeIs (.ref I) "list_reverseiterator":=hit2.typeIs;have st2:=W.frame 0 s ((s.heap.push { cls:=.type "list",data:=.seq #[] }).update s.heap.objs.size (Obj.mapSeq (λ_=>(#[]:Array Value)))) s.toks st0 (le_refl _) λb hb o e=>kp b o e
 unfold Builtin.List.listExtendWith;refine qX (wpAny_typeOf hT ?_);have q1:Builtin.List.listSameRef (.ref s.heap.objs.size) (.ref I)=false:=by
  have:s.heap.objs.size≠I:=Nat.ne_of_gt ltI;simp[Builtin.List.listSameRef,this]
 have q2:(Value.type "list_reverseiterator"==Value.type "list")=false:=by decide
 have q3:(Value.type "list_reverseiterator"==Value.type "tuple")=false:=by decide
 simp only[q1,q2,q3,Bool.or_false,Bool.false_eq_true,if_false];refine qX (W.self 0 _ _ _ st2 ?_);refine qX (wpAny_holding (zMZ hT ?_));rw[if_neg (by decide +kernel)];refine xy ⟨plainId_quiet F.plain_extend_loop _,codeAny_extend_loopS W hs _ hSf _ items.size 0 _ _ _ rfl (zero_le _) st2 hS2 (ItemsOf.nil _) λs' acc' c' hm hS' hacc=>?_⟩;have m1:Moved (s.heap.objs.size::[I]) (λa b=>b=a) { s with heap:=s.heap.push { cls:=.type "list",data:=.seq #[] } } { s with heap:=(s.heap.push { cls:=.type "list",data:=.seq #[] }).update s.heap.objs.size (Obj.mapSeq (λ_=>(#[]:Array Value))) } :=
  ⟨λb o hb e=>oth b o (λh=>hb (by rw[h];exact xq)) e,rfl,rfl,rfl,le_refl _⟩
 exact⟨rfl,hQ s' acc' c' (Moved.trans W.gtrans m1 hm) hS' hacc⟩
end
end DL
namespace DL
open PySem Spec PyProof.Rows L2
theorem zLr (h:Vals xs us):Vals xs.reverse us.reverse:=by
 induction h with
 | nil=>exact .nil
 | cons r t ih =>
  simp;exact ih.append (.cons r .nil)
theorem DenL.rev {K:W.Frag}:∀ {ds:List D} {vs:List V},DenL K H ds vs->DenL K H ds.reverse vs.reverse
 | [],_,h=>by rw[DenL] at h;subst h;exact .nil
 | d::ds,_,h=>by
  rw[DenL] at h;obtain⟨v,ws,rfl,h1,h2⟩:=h;rw[reverse_cons,reverse_cons];exact(DenL.rev h2).append (.cons h1 .nil)
theorem zNO:bootBuiltins "reversed"=some (.type "reversed"):=by decide
noncomputable def revD:D->Option R
 | .lst xs=>if xs.length<=10000 then some (.lst xs.reverse,.fr) else none
 | _=>none
section
variable {X:Cx}
theorem zKJ {its:List Value}(h:ItemsOf (λi v=>its.toArray[its.toArray.size - 1 - i]?=some v) acc its.toArray.size):acc=its.reverse.toArray:=by
 apply Array.ext';apply ext_getElem?;intro j;obtain⟨h1,h2⟩:=h;by_cases hj:j < acc.size
 .have e:=h2 j _ (Array.getElem?_eq_getElem hj);simp;grind
 .simp_all
theorem zIk (hcalm:X.calm=true)(hgl:Gl X "list")(hml:X.mg "list"=none)(hgz:Gl X "reversed")(hmz:X.mg "reversed"=none)(ha:GE X a f)
  (hs:starEach [a] X.env=[(false,eval a X.env)]) :
  GE X (.Call (.Name "list" p) [.Call (.Name "reversed" p2) [a] [] pos2] [] pos) (one f revD):=by
 intro pins s B H Q I ⟨S,G,r,ds,e,c⟩;obtain⟨x,ex,e⟩:=bind_some e;unfold revD at e;split at e
 .rename_i xs exs;by_cases ok:xs.length<=10000
  .rw [if_pos ok] at e;cases e;refine wpAny_Call_Name_kw (zCe I hgl hml boot_list ?_ (by decide) (by decide));refine PyProof.Rows.callWith_type1 ?_ rfl rfl;show wpAny _ _ (spliced ((false,eval (.Call (.Name "reversed" p2) [a] [] pos2) X.env)::[])) _ _ s;refine Calls.spliced_cons ?_;refine wpAny_Call_Name_kw (zCe I hgz hmz zNO ?_ (by decide) (by decide));refine PyProof.Rows.callWith_type1 (thn ((zAU ha zA1 hs) pos2 pins s B H (λvs H2=>∃ vx,vs=[vx]/\Same H H2/\Rdv X.K H2 S x.1 vx) I
    ⟨S,G,x,ds,ex,λvx H1 s1 r1=>⟨vx,rfl,s1,r1.rd⟩⟩) λus s1 ⟨vs,H1,I1,r1,q1⟩=>?_) hs rfl
   obtain⟨vx,rfl,sm,dx⟩:=q1;rw[exs] at dx;obtain⟨l1,v1,rfl,w1,d1⟩:=dx.lst;obtain⟨u1,rfl,ru1⟩:=zII r1;cases ru1;obtain⟨its1,rv1,p1,z1⟩:=I1.list w1;have n1:xs.length=v1.length:=d1.length;have m1:=rv1.length;have lt1:l1 < s1.heap.objs.size:=by obtain⟨o,q,_⟩:=p1.isList;exact lt_size q
   refine call_reversed_list p1.isList ?_;refine Calls.spliced_nil ?_;have kq:∀ b o,s1.heap.get? b=some o->(s1.heap.push (revObj l1 ((its1.toArray.size:Int) - 1))).get? b=some o:=λb o q=>get?_push_of_some _ q
   refine zFh (s:={ s1 with heap:=s1.heap.push (revObj l1 ((its1.toArray.size:Int) - 1)) }) (I:=s1.heap.objs.size) (l:=l1) (items:=its1.toArray) (I1.ok.hd hcalm) (ne_of_lt lt1) ⟨_,get?_push_size _ rfl,rfl,rfl⟩ (p1.isList.at λo q=>kq _ o q) (by rw[xQ];omega) λs' acc c' mv hlst hit=>?_
   have sz:({ s1 with heap:=s1.heap.push (revObj l1 ((its1.toArray.size:Int) - 1)) }:Shared).heap.objs.size=s1.heap.objs.size+1:=Heap.size_push _ _;rw[sz] at mv hlst ⊢;obtain rfl:=zKJ hit;have kp:∀ b o,s1.heap.get? b=some o->s'.heap.get? b=some o:=λb o q=>by
    have hb:b < s1.heap.objs.size:=lt_size q;refine mv.heap b o (λz=>?_) (get?_push_of_some _ (kq b o q));rcases mem_cons.mp z with z | z
    .exact absurd hb (by rw[z];exact Nat.not_lt.mpr (Nat.le_succ _))
    .exact absurd hb (by rw[mem_singleton.mp z];exact lt_irrefl _)
   have es:s'={ s1 with heap:=s'.heap,toks:=s'.toks }:=by
    obtain⟨h',g',d',t',o'⟩:=s';have e1:g'=s1.gens:=mv.gens;have e2:d'=s1.drawn:=mv.drawn;have e3:o'=s1.os:=mv.os;subst e1 e2 e3
    rfl
   have fr:H1 (s1.heap.objs.size+1)=none:=I1.hok.fresh (Nat.le_succ _);have I2:Inv X pins B (upd H1 (s1.heap.objs.size+1) (.lst v1.reverse)) { s1 with heap:=s'.heap,toks:=s'.toks } :=
    I1.laid kp (Nat.le_succ _) (show zCP X.prog X.w _ _ _ (.lst v1.reverse) from ⟨by rw[List.length_reverse];exact z1,its1.reverse,c',zLr rv1,hlst⟩)
   rw[es];refine⟨.ref (s1.heap.objs.size+1),_,I2,rfl,c _ _ (sm.trans (zAQ fr _)) (.lstNew sm (ds.mono sm).sok fr d1.rev)⟩
  .rw [if_neg ok] at e;cases e
 .cases e
end
end DL
end
section
namespace DL
open PySem Spec PyProof.Rows L2
section
variable {X:Cx}
noncomputable def augI:Operator->Int->Int->Option Int
 | .Add,a,b=>some (a+b)
 | .Sub,a,b=>some (a - b)
 | _,_,_=>none
noncomputable def augD (op:Operator)(i:Nat)(f:Dst->Option R):Dst->Option Out:=λG=>match G[i]? with
 | some (some (.int a,false))=>(f G).bind λr=>match r.1 with
  | .int b=>(augI op a b).bind λc=>some (.nx (G.set i (some (.int c,false))))
  | _=>none
 | _=>none
theorem zSF (hN:X.N.Nodup)(hi:X.N[i]?=some x)(hx:Loc X.env.scope x)(h:GE X e f)(hf:X.fn x=true\/X.env.scope.names.lookup x=some .local) :
  GS X (.AugAssign (.Name x pos') op e pos) (augD op i f):=λH0=>by
 have go:∀ (g:Int->Int->Int),(∀ a b,augI op a b=some (g a b))->OpR X (inplaceOp op) (rI0 λi j=>.int (g i j))->PS X (.AugAssign (.Name x pos') op e pos) (gS X.K H0 (augD op i f)):=λg hg ho=>(zQ9 hN hi hx h (λpins s B H x y v u Q I rx ry q=>ho pins s B H x y v u Q I rx ry q) hf).imp λE B H zz78=>by
  obtain⟨S,G,o,ds,h0,e,p⟩:=zz78;unfold augD at e;split at e
  .rename_i a q;obtain⟨r,er,e⟩:=bind_some e;obtain⟨d,k⟩:=r;split at e
   .rename_i b eb;rw[hg] at e;cases e;dsimp only at eb;subst eb;obtain⟨v,q1,q2⟩:=ds.get i _ _ q;have q3:=q2.den rfl;rw[Den] at q3;subst q3;refine⟨_,q1,S,G,_,ds,er,λy H1 s1 r1=>⟨a,b,rfl,r1.rd.int,?_⟩⟩;exact p S _ H1 ((ds.mono s1).set (by rw[Den])) (h0.trans (zAM s1))
   .cases e
  .cases e
 have no:(∀ a b,augI op a b=none)->PS X (.AugAssign (.Name x pos') op e pos) (gS X.K H0 (augD op i f)):=λhn=>(zFL (X:=X)).imp λE B H zz79=>by
  obtain⟨S,G,o,ds,h0,e,p⟩:=zz79;unfold augD at e;split at e
  .obtain ⟨r,er,e⟩:=bind_some e;split at e
   .rw [hn] at e;cases e
   .cases e
  .cases e
 cases op with
 | Add=>exact go (·+·) (λ_ _=>rfl) zPR
 | Sub=>exact go (· - ·) (λ_ _=>rfl) zPQ
 | _=>exact no λ_ _=>rfl
theorem zCu:∀ {ns:List Int} {its:List Value},Vals (ns.map V.int) its->∃ ps:List (Int×Tok),its=ps.map (λp=>Value.int p.1 p.2)/\ps.map (·.1)=ns
 | [],[],_=>⟨[],rfl,rfl⟩
 | n::ns,_::_,.cons r t=>by
  obtain⟨ps,rfl,e2⟩:=zCu t;obtain⟨tk,rfl⟩:=r;exact⟨(n,tk)::ps,rfl,by rw[map_cons,e2]⟩
end
section
variable {X:Cx}
theorem RV.str {K:W.Frag}(x:Str):RV K H H' S (.str x,.cl) (.str x):=rfl
inductive T1 where
 | str | int | all | len
 deriving DecidableEq
noncomputable def T1.nm:T1->Str
 | .str => "str"
 | .int => "int"
 | .all => "all"
 | .len => "len"
inductive T2 where
 | add | inn | ix | drp | sw | spl | join | zf | fs (x:Str)
noncomputable def txtD:D->Option Str
 | .int i=>if i.natAbs.log2 < 1920 then some (Str.ofString (toString i)) else none
 | .str x=>if x.length<=10000 then some x else none
 | _=>none
noncomputable def fsD (m:Str)(x y:D):Option R:=(txtD x).bind λa=>(txtD y).bind λb=>if a.length+m.length+b.length<=10000 then some (.str (a++m++b),.cl) else none
end
section
variable {X:Cx}
noncomputable def anyS (sub:Str->Str->Option Bool)(c:Str):List Str->Option Bool
 | []=>some false
 | y::ys=>match sub y c with
  | some true=>some true
  | some false=>anyS sub c ys
  | none=>none
inductive ClsT (X:Cx) (sub:Str->Str->Option Bool):List Str->List Expr->List V->List Value->Prop
 | nil:ClsT X sub [] [] [] []
 | cons {y:Str} {ys:List Str} {p:Pos} {es:List Expr} {v:V} {vs:List V} {u:Value} {us:List Value}:(∀ u',RelV v u'->u'=u)->PE X (.Name y p) (tC v)->(∀ c b,sub y c=some b->∀ C,zB6 X.K c C->XCls X.K C/\W.kitOne X.K (.ref C) u=some b) ->
   ClsT X sub ys es vs us->ClsT X sub (y::ys) (.Name y p::es) (v::vs) (u::us)
theorem ClsT.pa (h:ClsT X sub ys es vs us):PA X es (λ_ H Q=>Q vs H):=by
 induction h with
 | nil=>exact zA1
 | cons h1 h2 h3 h4 ih=>exact zAU h2 ih rfl
theorem ClsT.us {vs:List V}{us ws:List Value}(h:ClsT X sub ys es vs us)(r:Vals vs ws):ws=us:=by
 induction h generalizing ws with
 | nil=>cases r;rfl
 | cons h1 h2 h3 h4 ih =>
  cases r with
  | cons r1 r2=>rw[h1 _ r1,ih r2]
theorem ClsT.any {vs:List V}{us:List Value}(h:ClsT X sub ys es vs us){c:Str}{C:Addr}(q:zB6 X.K c C):∀ {b:Bool},anyS sub c ys=some b->W.kitAny X.K (.ref C) us=some b:=by
 induction h with
 | nil=>intro b e;exact e
 | cons h1 h2 h3 h4 ih =>
  intro b e;unfold anyS at e;unfold W.kitAny;split at e
  .rename_i e1;rw[(h3 c true e1 C q).2];omega
  .rename_i e1;simpa [(h3 c false e1 C q).2] using ih e
  .cases e
theorem ClsT.len {es:List Expr}{vs:List V}{us:List Value}(h:ClsT X sub ys es vs us):vs.length=ys.length:=by
 induction h with
 | nil=>rfl
 | cons h1 h2 h3 h4 ih=>rw[xJ,xJ,ih]
def rRep (K:W.Frag):R2:=λx y H Q=>∃ l xs i,x=.ref l/\y=.int i/\SqL K H l xs/\0<=i/\i<=10000/\xs.length*i.toNat<=10000/\∀ p,H p=none->Q (.ref p) (upd H p (.lst (List.replicate i.toNat xs).flatten))
theorem zHR (h:Vals vs us):∀ n:Nat,Vals (List.replicate n vs).flatten (List.replicate n us).flatten
 | 0=>.nil
 | n+1=>by rw[replicate_succ,flatten_cons,replicate_succ,flatten_cons];exact h.append (zHR h n)
theorem zLG {K:W.Frag}(h:DenL K H ds vs):∀ n:Nat,DenL K H (List.replicate n ds).flatten (List.replicate n vs).flatten
 | 0=>.nil
 | n+1=>by rw[replicate_succ,flatten_cons,replicate_succ,flatten_cons];exact h.append (zLG h n)
theorem zGx {T:Type}(xs:List T):∀ n:Nat,(List.replicate n xs).flatten.length=xs.length*n
 | 0=>by simp
 | n+1=>by rw[replicate_succ,flatten_cons,qQ,zGx xs n,Nat.mul_succ];omega
theorem zNu:OpR X (binaryOp .Mult) (rRep X.K):=by
 intro pins s B H x y v u Q I rx ry h;obtain⟨l,xs,i,rfl,rfl,hl,h0,h1,hz,q⟩:=h;cases rx;obtain⟨t,rfl⟩:=ry;obtain⟨its,rv,⟨⟨cls,dd,data,sl⟩,n,e1,e2,e3,e4⟩,z1⟩:=I.list hl;subst e2 e4;have hsz:its.toArray.size*i.toNat<=10000:=by rw[xQ,<- rv.length];exact hz
 refine wpAny_binaryOp_repeat_ref (T := "list") (U := "int") (by decide) ⟨_,e1,rfl⟩ (λs'=>typeIs_int s' i t) noFill_list_mul F.fills_int_mul F.slot_int_rmul repeat_list F.slot_int_index.lookup ?_;refine call_meets F.slot_int_rmul (typeIs_int s i t) F.entry_int_rmul (F.args_int_rmul_2 _ _) (lm_int_rmul_list_any i t l _ n dd sl) ⟨e1,rfl,⟨_,e1,rfl⟩,?_⟩;refine call_meets F.slot_list_mul ⟨_,e1,rfl⟩ F.entry_list_mul (F.args_list_mul_2 _ _) (lm_list_mul_any l _ n dd sl i t (by simp[Builtin.List.listFitsIndex];omega) (by omega) (by simp[Builtin.List.listTooLong,sizeLine];rw[xQ] at hsz;omega)) ⟨e1,?_⟩;rw[listMul_foldl_if];exact⟨.ref _,_,I.lnew (zHR rv i.toNat) (by rw[zGx];exact zCw hz),rfl,q _ I.fresh⟩
end
end DL
end
section
namespace L2
open PySem Spec PyProof.Rows
section
variable {a:Type}[DecidableEq a]
noncomputable def valV (kvs:List (a×V))(k:a):Option V:=(kvs.find? λkv=>decide (kv.1=k)).map (·.2)
noncomputable def putK (kvs:List (a×V))(k:a)(v:V):List (a×V) :=
 if (kvs.any λkv=>decide (kv.1=k))=true then kvs.map (λkv=>if kv.1=k then (kv.1,v) else kv) else kvs++[(k,v)]
theorem zE7 {r:List (a×V)}{k:a}(e:p.1=k):valV (p::r) k=some p.2:=by simp[valV,e]
theorem zE8 {r:List (a×V)}{k:a}(e:¬ p.1=k):valV (p::r) k=valV r k:=by simp[valV,e]
theorem zHT (k:a):∀ kvs:List (a×V),(kvs.any λkv=>decide (kv.1=k))=(valV kvs k).isSome
 | []=>rfl
 | p::r=>by
  rw[List.any_cons];by_cases e:p.1=k
  .simp only [zE7 e,decide_eq_true e,Bool.true_or,Option.isSome_some]
  .rw [zE8 e,decide_eq_false e,Bool.false_or];exact zHT k r
end
theorem RelO.isSome_eq (r:RelO o u):o.isSome=u.isSome:=by
 cases o with
 | none=>cases u with
  | none=>rfl
  | some _=>exact r.elim
 | some _=>cases u with
  | none=>exact r.elim
  | some _=>rfl
abbrev KT (H:Hp):List (List Key×V)->List (List Key×Addr×Value)->Prop:=Paired λp q=>p.1=q.1/\H q.2.1=some (.tup (p.1.map kV))/\RelV p.2 q.2.2
theorem KT.val (r:KT H kvs xs)(k:List Key):RelO (valV kvs k) ((atKey xs k).map (·.2)):=by
 induction r with
 | nil=>exact True.intro
 | @cons p q ps qs h t ih =>
  obtain⟨h1,_,h2⟩:=h;by_cases e:p.1=k
  .have e':=h1.symm.trans e;have b:atKey (q::qs) k=some q.2:=by simp[atKey,e']
   rw[zE7 e,b];exact h2
  .have e':¬ q.1=k:=λz=>e (h1.trans z)
   have b:atKey (q::qs) k=atKey qs k:=by simp[atKey,e']
   rw[zE8 e,b];exact ih
theorem KT.repl (r:KT H kvs xs)(k:List Key)(ry:RelV y u) :
  KT H (kvs.map λkv=>if kv.1=k then (kv.1,y) else kv) (xs.map (putAt k u)):=by
 induction r with
 | nil=>exact .nil
 | @cons p q ps qs h t ih =>
  refine .cons ?_ ih;unfold putAt;by_cases e:p.1=k
  .simp_all
  .simp_all
theorem KT.put (r:KT H kvs xs)(k:List Key)(hb:H b=some (.tup (k.map kV)))(ry:RelV y u) :
  KT H (putK kvs k y) (storedH xs k b u):=by
 have e:(kvs.any λkv=>decide (kv.1=k))=(atKey xs k).isSome:=by
  rw[zHT,(r.val k).isSome_eq,Option.isSome_map]
 unfold putK storedH;rw[e];by_cases q:(atKey xs k).isSome=true
 .rw [if_pos q,if_pos q];exact r.repl k ry
 .rw [if_neg q,if_neg q];exact Paired.snoc r ⟨rfl,hb,ry⟩
theorem KT.keeps (r:KT H kvs xs)(ht:∀ b ys,H b=some (.tup ys)->H' b=some (.tup ys)):KT H' kvs xs :=
 Paired.mapP r λ_ _ z=>⟨z.1,ht _ _ z.2.1,z.2.2⟩
section
variable {X:Cx}{pins:List (Addr×Obj)}{B:St}{H:Hp}{s:Shared}{a:Addr}{y v:V}{u r:Value}{o:Option V}{A:Around}{E:Value->Shared->Prop}
theorem Inv.big (I:Inv X pins B H s):sysModules < s.heap.objs.size:=Nat.lt_trans (by decide) (I.mod.glob.keeps I.bk).lt
end
end L2
end
section
namespace DL
open PySem Spec PyProof.Rows L2
variable {X:Cx}
end DL
end
section
namespace L2
open PySem Spec PyProof.Rows
section
variable {a:Type}[DecidableEq a]
noncomputable def zS3 (kvs:List (a×V))(k:a):List (a×V):=kvs.filter λkv=>decide (kv.1≠k)
theorem KV.val (r:KV kvs vs)(k:a):RelO (valV kvs k) (valueAt vs k):=by
 induction r with
 | nil=>exact True.intro
 | @cons p q ps qs h t ih =>
  obtain⟨h1,h2⟩:=h;by_cases e:p.1=k
  .have e':=h1.symm.trans e;have b:valueAt (q::qs) k=some q.2:=by simp[valueAt,e']
   rw[zE7 e,b];exact h2
  .have e':¬ q.1=k:=λz=>e (h1.trans z)
   have b:valueAt (q::qs) k=valueAt qs k:=by simp[valueAt,e']
   rw[zE8 e,b];exact ih
theorem KV.any (r:KV kvs vs)(k:a):(kvs.any λkv=>decide (kv.1=k))=vs.any λkv=>decide (kv.1=k):=by
 induction r with
 | nil=>rfl
 | cons h t ih=>rw[List.any_cons,List.any_cons,ih,h.1]
theorem KV.repl (r:KV kvs vs)(k:a)(ry:RelV y u) :
  KV (kvs.map λkv=>if kv.1=k then (kv.1,y) else kv) (vs.map λkv=>if kv.1=k then (kv.1,u) else kv):=by
 induction r with
 | nil=>exact .nil
 | @cons p q ps qs h t ih =>
  refine .cons ?_ ih;grind
theorem KV.put (r:KV kvs vs)(k:a)(ry:RelV y u):KV (putK kvs k y) (stored vs k u):=by
 unfold putK stored;rw[r.any k];by_cases e:(vs.any λkv=>decide (kv.1=k))=true
 .rw [if_pos e,if_pos e];exact r.repl k ry
 .rw [if_neg e,if_neg e];exact Paired.snoc r ⟨rfl,ry⟩
theorem KV.drop (r:KV kvs vs)(k:a):KV (zS3 kvs k) (without vs k):=by
 unfold zS3 without
 induction r with
 | nil=>exact .nil
 | @cons p q ps qs h t ih =>
  obtain⟨h1,h2⟩:=h;rw[filter_cons,filter_cons];by_cases e:p.1=k
  .grind
  .have e':=λz=>e (h1.trans z)
   rw[if_pos (by grind),if_pos (by grind)];exact .cons ⟨h1,h2⟩ ih
theorem KV.length {kvs:List (a×V)}{vs:List (a×Value)}(r:KV kvs vs):kvs.length=vs.length:=Paired.length r
end
def DGet (H:Hp)(a:Addr)(y:V)(r:Option V):Prop :=
 (∃ kvs k,Rd H a (.dK kvs)/\y=kV k/\r=valV kvs k)\/∃ kvs k b,Rd H a (.dT kvs)/\y=.ref b/\H b=some (.tup (k.map kV))/\r=valV kvs k
def DPut (H:Hp)(a:Addr)(y v:V)(H':Hp):Prop :=
 (∃ kvs k,H a=some (.dK kvs)/\y=kV k/\kvs.length < sizeLine/\H'=upd H a (.dK (putK kvs k v))) \/
 ∃ kvs k b,H a=some (.dT kvs)/\y=.ref b/\H b=some (.tup (k.map kV))/\kvs.length < sizeLine/\H'=upd H a (.dT (putK kvs k v))
theorem DGet.k {kvs:List (Key×V)}{k:Key}(e:H a=some (.dK kvs)):DGet H a (kV k) (valV kvs k):=.inl ⟨kvs,k,.inl e,rfl,rfl⟩
theorem DPut.k {kvs:List (Key×V)}{k:Key}{v:V}(e:H a=some (.dK kvs))(hl:kvs.length < sizeLine):DPut H a (kV k) v (upd H a (.dK (putK kvs k v))):=.inl ⟨kvs,k,e,rfl,hl,rfl⟩
theorem DPut.t {kvs:List (List Key×V)}{k:List Key}{v:V}(e:H a=some (.dT kvs))(eb:H b=some (.tup (k.map kV)))(hl:kvs.length < sizeLine) :
  DPut H a (.ref b) v (upd H a (.dT (putK kvs k v))):=.inr ⟨kvs,k,b,e,rfl,eb,hl,rfl⟩
end L2
end
section
namespace DL
open PySem Spec PyProof.Rows L2
theorem zD1 (e:h.get? b=some o):zCP P w H h b (.frz o anyU):=⟨e,True.intro,⟨o,e⟩,λ_ _ _ _=>True.intro⟩
theorem zOf (hS:∀ b∈S,∃ o,H b=some (.frz o anyU))(nf:∀ b∈S,b∉fs)(hok:HOk P w H h)(un:Un fs [] (hide H S) H2 h h')(hok2:HOk P w H2 h') :
  ∃ H':Hp,(∀ b∈S,H' b=H b)/\(∀ b,b∉S->H' b=H2 b)/\Same H2 H'/\(∀ b∈S,H2 b=none)/\Un fs [] H H' h h'/\HOk P w H' h':=by
 have there:∀ {b:Addr},b∈S->∃ o,H b=some (.frz o anyU)/\h'.get? b=some o/\H2 b=none:=λ{b} z=>by
  obtain⟨o,e⟩:=hS b z;obtain⟨e1,_⟩:=hok b _ e;exact⟨o,e,un.keep b o e1 (zBz z) (nf b z) (by simp),un.free b o e1 (zBz z) (by simp)⟩
 have nS:∀ {b:Addr} {u:HO},H2 b=some u->b∉S:=λ{b u} e z=>by
  obtain⟨_,_,_,q⟩:=there z;grind
 have nN:∀ {b:Addr},H b=none->b∉S:=λ{b} e z=>by
  obtain⟨_,q,_⟩:=there z;grind
 have hid:∀ {b:Addr},b∉S->hide H S b=H b:=λz=>zAL z
 obtain⟨H',hin,hout⟩:∃ H':Hp,(∀ b∈S,H' b=H b)/\(∀ b,b∉S->H' b=H2 b):=⟨λb=>if b∈S then H b else H2 b,λb z=>if_pos z,λb z=>if_neg z⟩;have sm:Same H2 H':=λb u e=>by rw[hout b (nS e)];exact e
 refine⟨H',hin,hout,sm,λb z=>(there z).choose_spec.2.2,⟨λb o e n=>un.keep b o e (by rw[hid (nN n)];exact n),λb o e n=>un.slot b o e (by rw[hid (nN n)];exact n),λb o e n hx=>?_,un.there,λb xs e=>?_,λb o u e=>?_,λb q e=>?_⟩,λb u e=>?_⟩
 .rw [hout b (nN n)];exact un.free b o e (by rw[hid (nN n)];exact n) hx
 .have z:b∉S:=λz=>by obtain⟨_,q,_⟩:=there z;rw[q] at e;cases e
  rw[hout b z];exact un.tups b xs (by rw[hid z];exact e)
 .by_cases z:b∈S
  .rw [hin b z];exact e
  .rw [hout b z];exact un.frzs b o u (by rw[hid z];exact e)
 .have z:b∉S:=λz=>by obtain⟨_,q,_⟩:=there z;rw[q] at e;cases e
  rw[hout b z];exact un.tbls b q (by rw[hid z];exact e)
 .by_cases z:b∈S
  .obtain ⟨o,q,g,_⟩:=there z;rw[hin b z,q] at e;cases e;exact zD1 g
  .rw [hout b z] at e;exact(hok2 b u e).stay (λ_ _ _ q=>q) (λ_ q=>sm _ _ q) (λ_ _ q=>sm _ _ q) λ_ _ _ q _=>sm _ _ q
theorem zMY (hS:∀ b∈S,∃ o v,H b=some (.frz o anyU)/\o.data=.cell v)(hok:HOk P w H h):HOk P w (hide H S) h:=λb u e=>by
 obtain⟨nb,e1⟩:=zAs e;have keep:∀ {c:Addr} {v:HO},H c=some v->(∀ o,v≠.frz o anyU)->hide H S c=some v:=λ{c v} q n=>by
  rw[zAL λz=>?_]
  .exact q
  .obtain ⟨o,_,q2,_⟩:=hS c z;rw[q] at q2;exact n o (xX q2)
 refine(hok b u e1).stay (λ_ _ _ q=>q) (λc q=>keep q λo z=>nomatch z) (λc xs q=>keep q λo z=>nomatch z) λc ob v q zz80=>?_
 obtain⟨vs,d⟩:=zz80;rw[zAL λz=>?_]
 .exact q
 .obtain ⟨o,cv,q2,d2⟩:=hS c z;rw[q] at q2;cases q2;rw[d] at d2;cases d2
theorem zBG.get:∀ {H:Hp} {cl:List (Str×Addr)} {vs:List V},zBG H cl vs->∀ {i:Nat} {v:V},vs[i]?=some v->∃ p o u,cl[i]?=some p/\H p.2=some (.frz o anyU)/\o.data=.cell (some u)/\RelV v u
 | _,_,_,.nil,i,v,e=>by simp at e
 | H,_,_,.cons (a:=p) (b:=v0) ⟨o,u,h1,h2,h3⟩ t,i,v,e=>by
  cases i with
  | zero=>simp at e;subst e;exact⟨p,o,u,by simp,h1,h2,h3⟩
  | succ i =>
   obtain⟨p',o',u',e1,e2⟩:=zBG.get (H:=H) t (i:=i) (v:=v) (by simpa using e);exact⟨p',o',u',by simpa using e1,e2⟩
theorem zBG.mem (h:zBG H cl vs):∀ p∈cl,∃ o u,H p.2=some (.frz o anyU)/\o.data=.cell (some u):=by
 induction h with
 | nil=>intro p hp;exact absurd hp (by simp)
 | cons r t ih =>
  intro p hp;rcases mem_cons.mp hp with rfl | hp
  .obtain ⟨o,u,h1,h2,_⟩:=r;exact⟨o,u,h1,h2⟩
  .exact ih p hp
noncomputable def zS6 (P:Program)(w:World)(K:W.Frag)(mg:Str->Option Value)(base:Heap)(N:List Str)(L:LamI)(f c:Addr)(cl:List (Str×Addr))(A:Around)(outer:List Env)(s:Shared)(H:Hp):Cx where
 prog:=P
 w:=w
 K:=K
 mg:=mg
 base:=base
 A:=A.deeper (W.envX L.qual L.scope s.heap.objs.size f (.ref c) cl)
 N:=N
 s0:=s
 Y6:=H
 env:=W.envX L.qual L.scope s.heap.objs.size f (.ref c) cl
 outer:=outer
 stack:=W.envX L.qual L.scope s.heap.objs.size f (.ref c) cl::outer
 ex:=[]
 calm:=true
 fn:=λ_=>false
 pn:=[]
 xe:=λ_ _=>False
structure zFn (x:Str)(ys:List Str)(L:LamI):Prop where
 kind:L.scope.kind=.function
 co:L.scope.isCoroutine=false
 gen:L.scope.isGenerator=false
 nd:(x::ys).Nodup
 par:L.scope.names.lookup x=some .local
 fr:∀ y∈ys,L.scope.names.lookup y=some .free
 all:∀ y,L.scope.names.lookup y=some .free->y∈ys
 nocell:∀ y∈L.scope.names,y.2≠.cell
 bind:∀ cl pm c ctv u,bindArgs (W.kla_fn "<lambda>" L.qual L.params L.body L.scope cl pm c ctv) ⟨[u],[]⟩=pure [(x,u)]
theorem zF8 {ys:List Str}:∀ {cl:List (Str×Addr)},cl.map (·.1)=ys->ys.Nodup->∀ {i:Nat} {p:Str×Addr},cl[i]?=some p->cl.lookup p.1=some p.2/\ys[i]?=some p.1:=λ{cl} h nd {i p} e=>by
 refine⟨?_,by rw[<- h,getElem?_map,e];rfl⟩;subst h
 induction cl generalizing i with
 | nil=>simp at e
 | cons q cl ih =>
  rw[map_cons,nodup_cons] at nd;cases i with
  | zero=>simp at e;subst e;rw[lookup_cons,beq_self_eq_true]
  | succ i =>
   have e':cl[i]?=some p:=by simpa using e
   rw[lookup_cons,beq_eq_false_iff_ne.mpr λz=>nd.1 (by rw[<- z];exact mem_map.mpr ⟨p,mem_of_getElem? e',rfl⟩)];exact ih e' nd.2
theorem zPS {P:Program}{w:World}{K:W.Frag}{mg:Str->Option Value}{base:Heap}{x:Str}{ys:List Str}{L:LamI}{f c:Addr}{cl:List (Str×Addr)}{A:Around}{outer:List Env}{s:Shared}{H:Hp}{u:Value}{v:V}{vs:List V}{O7:Heap}
  (S:zFn x ys L) (hd:A.handled=none) (hdp:A.depth+1+Builtin.pylongFrames < recursionLimit) (e0:Env0 P w K mg base A outer s H) (r:RelV v u) (hy:cl.map (·.1)=ys) (hnd:(cl.map (·.2)).Nodup) (hc:zBG H cl vs)
  (hns:O7.Ns s.heap.objs.size (λy=>([(x,u)]:List (Str×Value)).reverse.lookup y)) (hsb:Heap.SameBut s.heap.objs.size (s.heap.push { cls:=.type "frame",data:=.dict #[] }) O7) (tk:Nat) :
  Inv (zS6 P w K mg base (x::ys) L f c cl A outer s (hide H (cl.map (·.2)))) [] (some v::vs.map some) (hide H (cl.map (·.2))) { s with heap:=O7,toks:=tk }:=by
 have hk:∀ b o,s.heap.get? b=some o->O7.get? b=some o:=λb o e=>hsb.extBut b o (ne_of_lt (lt_size e)) (get?_push_of_some _ e)
 have hS:∀ b∈cl.map (·.2),∃ o v,H b=some (.frz o anyU)/\o.data=.cell v:=λb z=>by
  obtain⟨p,hp,rfl⟩:=mem_map.mp z;obtain⟨o,u,h1,h2⟩:=hc.mem p hp;exact⟨o,_,h1,h2⟩
 have hok:=zMY hS e0.hok;have none_of:∀ {b:Addr},H b=none->hide H (cl.map (·.2)) b=none:=λ{b} q=>by
  by_cases z:b∈cl.map (·.2)
  .exact zBz z
  .rw [zAL z];exact q
 have lk:∀ {y:Str} {c':Addr},cl.lookup y=some c'->(y,c')∈cl:=λe=>PySem.mem_of_lookup e
 have cell:∀ {y:Str} {c':Addr},(y,c')∈cl->∃ cv,O7.IsCell c' cv:=λ{y c'} m=>by
  obtain⟨o,u,h1,h2⟩:=hc.mem _ m;obtain⟨e1,_⟩:=e0.hok _ _ h1;exact⟨_,o,hk _ _ e1,h2⟩
 have nodupY:ys.Nodup:=(nodup_cons.mp S.nd).2;have nx:x∉ys:=(nodup_cons.mp S.nd).1;have noA:∀ b:Addr,b∉([]:List Addr):=λb z=>absurd z (by simp)
 have lv:vs.length=cl.length:=(Paired.length hc).symm;refine⟨⟨e0.mod,S.kind,rfl,rfl,le_refl _,λy z c' h1 h2=>?_,λy hy'=>?_,λy c' q _=>(by cases q),λ_=>hd,Around.frames_deeper e0.frames,.inr ⟨rfl,rfl⟩,λb z=>absurd z (noA b),λb o e=>⟨(e0.bs b o e).1,none_of (e0.bs b o e).2⟩,e0.bsz,λb _ _=>noA b,λb z=>absurd z (noA b),e0.funs,λb z=>none_of (e0.frf b z),⟨hdp,e0.tree,_,_,rfl,S.gen,S.co,rfl,rfl⟩,λy hy' c' P' e=>?_⟩,
  rfl,e0.bare,Un.kept hk,⟨_,hns,λi y v' h1 h2 h3=>?_⟩,λy c' h=>cell (lk h),e0.hok.fresh (le_refl _) |> none_of,λy c' h=>zBz (mem_map.mpr ⟨_,lk h,rfl⟩),λp hp=>absurd (show p∈([]:List (Addr×Obj)) from hp) (by simp),hok.kept hk,?_⟩
 .-- the cells are apart
  have a1:=lk h1;have a2:=lk h2;have key:∀ {l:List (Str×Addr)},(l.map (·.2)).Nodup->∀ {p q:Str×Addr},p∈l->q∈l->p.2=q.2->p=q:=by
   intro l nd
   induction l with
   | nil=>intro p q hp;exact absurd hp (by simp)
   | cons a l ih =>
    grind
  exact congrArg Prod.fst (key hnd a1 a2 rfl)
 .have hy'':L.scope.names.lookup y=some .cell\/L.scope.names.lookup y=some .free:=hy';rcases hy'' with q | q
  .exact absurd rfl (S.nocell _ (PySem.mem_of_lookup q))
  .have m:=S.all y q;rw[<- hy] at m;obtain⟨p,hp,rfl⟩:=mem_map.mp m;obtain⟨i,hi,e⟩:=List.getElem_of_mem hp;exact⟨p.2,(zF8 hy nodupY (i:=i) (p:=p) (by rw[<- e];exact getElem?_eq_getElem hi)).1⟩
 .have q:=e0.tabs y hy' c' P' e;show hide H _ P'=_;rw[zAL λz=>?_]
  .exact q
  .obtain ⟨o,_,q2,_⟩:=hS P' z;rw[q] at q2;cases q2
 .cases i with
  | zero =>
   have e1:x=y:=by
    have h1':(x::ys)[0]?=some y:=h1;simpa using h1'
   have e2:v=v':=by simpa using h2
   subst e1 e2;exact⟨u,r,.inl ⟨S.par,by simp⟩⟩
  | succ i =>
   have e1:ys[i]?=some y:=by
    have h1':(x::ys)[i+1]?=some y:=h1;simpa using h1'
   have e2:vs[i]?=some v':=by
    simp_all
   obtain⟨p,o,uu,g1,g2,g3,g4⟩:=hc.get e2;obtain⟨k1,k2⟩:=zF8 hy nodupY g1;rw[e1] at k2;have ey:y=p.1:=xX k2;subst ey;obtain⟨g5,_⟩:=e0.hok _ _ g2;exact⟨uu,g4,.inr ⟨.inr (S.fr _ (mem_of_getElem? e1)),p.2,k1,o,hk _ _ g5,g3⟩⟩
 .show (some v::vs.map some).length=(x::ys).length;rw[xJ,xJ,qy,lv,<- hy,qy]
theorem zMU {P:Program}{w:World}{K:W.Frag}{mg:Str->Option Value}{base:Heap}{A:Around}{outer:List Env}{s:Shared}{H:Hp}{Q:VK}{E:XK}{k:Nat}{f:Addr}{L:LamI}{x:Str}{ys:List Str}{v:V}{u:Value}{vs:List V}
  (hr:Room (k+1) A) (e0:Env0 P w K mg base A outer s H) (la:zDb H L f vs) (ey:frN L=ys) (S:zFn x ys L) (rv:RelV v u)
  (body:∀ (c:Addr) (cl:List (Str×Addr)),cl.map (·.1)=ys->zBG H cl vs->(∀ b∈cl.map (·.2),∃ o v,H b=some (.frz o anyU)/\o.data=.cell v)->∃ t:TE,PE (zS6 P w K mg base (x::ys) L f c cl A outer s (hide H (cl.map (·.2)))) L.body t /\
   t (some v::vs.map some) (hide H (cl.map (·.2))) λv' H2=>∀ H',(∀ b∈cl.map (·.2),H' b=H b)->(∀ b,b∉cl.map (·.2)->H' b=H2 b)->Same H2 H'->(∀ b∈cl.map (·.2),H2 b=none)->Q v' H') :
  codeAny (model P w) A (.call (.ref f) ⟨[u],[]⟩) (CR CX0 outer P w H s Q E) s:=by
 obtain⟨cl,pm,c,ctv,oc,u1,h1,h2,h3,h4,h5,h6⟩:=la;rw[ey] at h4;obtain⟨g1,_⟩:=e0.hok _ _ h1;obtain⟨g2,_⟩:=e0.hok _ _ h2;obtain⟨cvs,ct,d1,d2⟩:=h3;have hS:∀ b∈cl.map (·.2),∃ o v,H b=some (.frz o anyU)/\o.data=.cell v:=λb z=>by
  obtain⟨p,hp,rfl⟩:=mem_map.mp z;obtain⟨o,u,q1,q2⟩:=h6.mem p hp;exact⟨o,_,q1,q2⟩
 refine W.kla_callFunE hr.depth g1 rfl S.co S.gen rfl ⟨c,oc,cvs,ct,rfl,g2,d1,d2⟩ ?_;rw[S.bind];have lim:s.heap.NoLimit:=e0.mod.nolimit.keeps λb o e=>(e0.bs b o e).1
 refine xy (wpAny_newFunctionEnv S.nocell (λy hy=>by rw[mem_singleton.mp hy];exact S.par) (λO7 hns hsb=>⟨lim.fresh _ hsb,?_⟩) S.kind);obtain⟨t,ht,hq⟩:=body c cl h4 h6 hS;have I:=zPS (f:=f) (c:=c) S hr.hd (by have:=hr.dp;show A.depth+1+100 < _;omega) e0 rv h4 h5 h6 hns hsb (s.toks+1);refine W.kla_codeExpr (wpAny_mono (ht [] _ _ _ _ I hq) (λuu s' hs=>?_) λe s' hs=>hs.elim);obtain⟨v',H2,J,rv',q⟩:=hs;obtain⟨H',p1,p2,p3,p4,un,hok'⟩:=zOf (P:=P) (w:=w) (fs:=frs outer) (S:=cl.map (·.2)) (λb z=>let ⟨o,_,q,_⟩:=hS b z;⟨o,q⟩) (λb z z2=>by
  obtain⟨o,_,q,_⟩:=hS b z;rw[e0.frf b z2] at q;cases q) e0.hok J.base J.hok
 exact⟨v',H',J.os,J.bare,un,hok',rv',q H' p1 p2 p3 p4⟩
noncomputable def clos:List (Str×NameKind)->List (Str×Addr)->List (Str×Addr)->Option (List (Str×Addr))
 | [],_,acc=>some acc
 | (x,k)::r,cs,acc=>if k==.free then (match cs.lookup x with
  | some c=>clos r cs ((x,c)::acc)
  | none=>none) else clos r cs acc
theorem zHM :∀ {l:List (Str×NameKind)} {acc:List (Str×Addr)},clos l env.cells acc=some cl ->
  (forIn l acc (λ(x:Str×NameKind) (r:List (Str×Addr))=>match x with
   | (name,kind)=>if (kind==.free)=true then (do let c<-cellOf env name;pure (ForInStep.yield ((name,c)::r))) else pure (ForInStep.yield r)):Sem (List (Str×Addr)))=pure cl
 | [],acc,h=>by
  cases h;simp
 | (x,k)::l,acc,h=>by
  unfold clos at h;rw[forIn_cons];by_cases e:(k==NameKind.free)=true
  .rw [if_pos e] at h;split at h
   .rename_i c ec;have:=zHM (l:=l) h;have ce:cellOf env x=pure c:=by unfold cellOf;rw[ec]
    simp only[e,if_true,ce,pure_bind];exact this
   .cases h
  .rw [if_neg e] at h;have:=zHM (l:=l) h;simp only[e,Bool.false_eq_true,if_false,pure_bind];exact this
theorem zEu (h:clos sc.names env.cells []=some cl):closureFor sc env=pure cl:=by
 unfold closureFor;have:=zHM h;simp only[bind_pure];omega
theorem zFr {a b:Nat}{c:Value}(l:List Value)(h:TriplesOk l):TriplesOk (l++[rawInt a,rawInt b,c]):=by
 fun_induction TriplesOk l with
 | case1=>simp[TriplesOk,rawInt]
 | case2 _ _ _ _ _ rest ih=>simpa [TriplesOk] using ih h
 | case3=>cases h
theorem zIq {pos:Pos}{a b:Nat}{c cv:Value}(l:List Value)(h:TriplesOk l)(e:codeAmong pos (l++[rawInt a,rawInt b,c])=some cv):codeAmong pos l=some cv\/cv=c:=by
 fun_induction TriplesOk l with
 | case1 =>
  simp only[nil_append,rawInt,codeAmong] at e
  simp_all
 | case2 line t col u x rest ih =>
  simp only[cons_append,codeAmong] at e ⊢;split at e
  .simp_all
  .rename_i z;rw[if_neg z];exact ih h e
 | case3=>cases h
section
variable {X:Cx}{pins:List (Addr×Obj)}{B:St}{H:Hp}{s:Shared}
theorem zMT (I:Inv X pins B H s)
  (hd:defaultsOf params X.env=([],[])) (hcl:clos scope.names X.env.cells []=some cl) (hcode:X.env.code=.ref c) (C:W.CodeHd X.base c P) (hP:H P=some (.tbl (X.env.qual ++ "<lambda>")))
  (h:∀ f c' ctv pm oc u1 H1 s',Same H H1->H f=none->H1 f=some (.frz (W.kla_obj "<lambda>" (X.env.qual ++ "<lambda>") params body scope cl pm c' ctv) anyU)->H1 c'=some (.frz oc u1)->zLl oc (X.env.qual ++ "<lambda>")->Inv X pins B H1 s'->Q (.ref f) s') :
  wpAny (model X.prog X.w) X.A (eval (.Lambda params body scope pos) X.env) Q E s:=by
 refine W.kla_eval hd ?_;have hg:s.heap.Ns mainGlobals X.mg:=I.ok.mod.glob.keeps I.bk;obtain⟨ps,e1,t1,cs⟩:=I.hok P _ hP;have C':=C.keeps I.bk;have hgP:mainGlobals≠P:=λz=>by
  obtain⟨o,es,ep,e,d,_⟩:=hg;rw[z,e1] at e;cases e;cases d
 obtain⟨bm,ob,b1,b2,b3,b4,b5,b6⟩:=I.ok.mod.bm;have b3':=I.bk _ _ b3;have hbm:bm≠mainGlobals:=λz=>by
  obtain⟨o,es,ep,e,d,_⟩:=hg;rw[<- z,b3'] at e;cases e;rw[b6] at d;cases d
 have hbP:bm≠P:=λz=>by
  rw[z,e1] at b3';cases b3';cases b4
 have hb:s.heap.BuiltinsAt X.mg P:=⟨bm,ob,b1,b2,hbm,hbP,b3',b4,b5,b6⟩;cases e:codeAmong pos ps.toList with
 | none =>
  refine W.kla_makeFunction (zEu hcl) I.ok.glob hg hcode C' e1 t1 e hgP hb λc' ctv h' tk hx hge hlt hrec htb=>?_
  obtain⟨c2,oc,vs,t,q1,q2,q3,q4⟩:=hrec;cases q1;have szh:s.heap.objs.size<=h'.objs.size:=le_trans hge (Nat.le_of_lt hlt);have nc:H c'=none:=I.hok.fresh hge;have nf:H h'.objs.size=none:=I.hok.fresh szh;have ncf:c'≠h'.objs.size:=ne_of_lt hlt;obtain⟨fo,efo⟩:∃ fo:Obj,fo=W.kla_obj "<lambda>" (X.env.qual ++ "<lambda>") params body scope cl ((X.mg "__name__").getD .none) c' ctv:=⟨_,rfl⟩;obtain⟨H1,eH⟩:∃ H1:Hp,H1=upd (upd H c' (.frz oc anyU)) h'.objs.size (.frz fo anyU):=⟨_,rfl⟩;have sm:Same H H1:=λb o q=>by
   rw[eH,zAN (zAg q nf),zAN (zAg q nc)];exact q
  have at1:H1 h'.objs.size=some (.frz fo anyU):=by rw[eH];exact zAP
  have at2:H1 c'=some (.frz oc anyU):=by rw[eH,zAN ncf];exact zAP
  have oth:∀ {b:Addr},b≠c'->b≠h'.objs.size->H1 b=H b:=λ{b} z1 z2=>by rw[eH,zAN z2,zAN z1]
  have kp:∀ b o,b≠P->s.heap.get? b=some o->(h'.push fo).get? b=some o:=λb o z q=>get?_push_of_some _ (hx b o z q)
  have lt:∀ {b:Addr} {o:Obj},s.heap.get? b=some o->b≠c'/\b≠h'.objs.size:=λ{b o} q=>⟨ne_of_lt (xY (lt_size q) hge),ne_of_lt (xY (lt_size q) szh)⟩
  have nP:∀ {b:Addr},H b=none->b≠P:=λ{b} q z=>by rw[z,hP] at q;cases q
  have un:Un X.fs [] H H1 s.heap (h'.push fo):=⟨λb o q n _ _=>kp b o (nP n) q,λb o q n _ _=>⟨o.slots,kp b o (nP n) q⟩,λb o q n _=>by
    obtain⟨z1,z2⟩:=lt q;rw[oth z1 z2];exact n,λb o q _=>by
    by_cases z:b=P
    .subst z;exact⟨_,get?_push_of_some _ htb⟩
    .exact ⟨o,kp b o z q⟩,λb xs q=>sm _ _ q,λb o u q=>sm _ _ q,λb q' q=>sm _ _ q⟩
  have hok:HOk X.prog X.w H1 (h'.push fo):=λb u q=>by
   by_cases z1:b=h'.objs.size
   .subst z1;rw[at1] at q;cases q;exact zD1 (get?_push_size _ (by rw[efo];rfl))
   .by_cases z2:b=c'
    .subst z2;rw[at2] at q;cases q;exact zD1 (get?_push_of_some _ q2)
    .rw [oth z2 z1] at q;by_cases z3:b=P
     .subst z3;rw[hP] at q;cases q;refine⟨_,get?_push_of_some _ htb,?_,λpos' cv z=>?_⟩
      .rw [Array.toList_append];exact zFr _ t1
      .rw [Array.toList_append] at z;rcases zIq _ t1 z with z | z
       .obtain ⟨c3,oc3,u3,g1,g2,g3⟩:=cs pos' cv z;exact⟨c3,oc3,u3,g1,sm _ _ g2,g3⟩
       .exact ⟨c',oc,anyU,z,at2,vs,t,q3,q4⟩
     .refine (I.hok b u q).stay (λd v hd w'=>kp d v ?_ w') (λd w'=>sm _ _ w') (λd xs w'=>sm _ _ w') λd o' u' w' _=>sm _ _ w'
      grind
  have I1:=I.un (t':=tk) un hok;rw[efo] at I1 at1;exact h _ c' ctv _ oc anyU H1 _ sm nf at1 at2 ⟨vs,t,q3,q4⟩ I1
 | some cv =>
  obtain⟨c',oc,u1,rfl,hc',co⟩:=cs pos cv e;refine W.kla_makeFunctionHit (zEu hcl) I.ok.glob hg hcode C' e1 t1 e hb λctv h' tk hk hsz=>?_
  have nf:H h'.objs.size=none:=I.hok.fresh hsz;have I1:=I.laid (a:=h'.objs.size) (o:=.frz (W.kla_obj "<lambda>" (X.env.qual ++ "<lambda>") params body scope cl ((X.mg "__name__").getD .none) c' ctv) anyU) (t':=tk) (λb o q=>get?_push_of_some _ (hk b o q)) hsz (zD1 (get?_push_size _ rfl));exact h _ c' ctv _ oc u1 _ _ (zAQ nf _) nf zAP (by rw[zAN (zAg hc' nf)];exact hc') co I1
end
end DL
end
section
namespace DL
open PySem Spec PyProof.Rows L2
mutual
noncomputable def noF:D->Bool
 | .lam _ _ _=>false
 | .tup ds=>noFs ds
 | .lst ds=>noFs ds
 | .obj _ _ ds=>noFs ds
 | _=>true
noncomputable def noFs:List D->Bool
 | []=>true
 | d::ds=>noF d&&noFs ds
end
abbrev zQe (H:Hp) (S:List Addr):Prop:=∀ b∈S,∃ o v,H b=some (.frz o anyU)/\o.data=.cell v
section
variable {K:W.Frag}{H:Hp}{S:List Addr}
theorem zB3 (hS:zQe H S)(e:H b=some u)(n:∀ o v,u=.frz o anyU->o.data≠.cell v):hide H S b=some u:=by
 rw[zAL λz=>?_]
 .omega
 .obtain ⟨o,v,q1,q2⟩:=hS b z
  simp_all
mutual
theorem Den.hideC (hS:zQe H S):∀ {d:D} {v:V},noF d=true->Den K H d v->Den K (hide H S) d v
 | .non,_,_,h=>by rw[Den] at h ⊢;exact h
 | .bl _,_,_,h=>by rw[Den] at h ⊢;exact h
 | .int _,_,_,h=>by rw[Den] at h ⊢;exact h
 | .str _,_,_,h=>by rw[Den] at h ⊢;exact h
 | .tup ds,_,n,h=>by
  rw[noF] at n;rw[Den] at h ⊢;obtain⟨a,vs,h1,h2,h3⟩:=h;refine⟨a,vs,h1,?_,DenL.hideC hS n h3⟩;rcases h2 with (q | ⟨o,q⟩) | q
  .exact .inl (.inl (zB3 hS q λo v z=>nomatch z))
  .exact .inl (.inr ⟨o,zB3 hS q λo v z=>nomatch z⟩)
  .exact .inr q
 | .lst ds,_,n,h=>by
  rw[noF] at n;rw[Den] at h ⊢;obtain⟨a,vs,h1,h2,h3⟩:=h;refine⟨a,vs,h1,?_,DenL.hideC hS n h3⟩;rcases h2 with (q | ⟨o,q⟩) | q
  .exact .inl (.inl (zB3 hS q λo v z=>nomatch z))
  .exact .inl (.inr ⟨o,zB3 hS q λo v z=>nomatch z⟩)
  .exact .inr q
 | .exc c,_,_,h=>by
  rw[Den] at h ⊢;obtain⟨a,o,u,C,h1,h2,h3,⟨vs,h4⟩,h5⟩:=h;exact⟨a,o,u,C,h1,zB3 hS h2 (λo' v z d=>by cases z;rw[h4] at d;cases d),h3,⟨vs,h4⟩,h5⟩
 | .dct ks,_,_,h=>by
  rw[Den] at h ⊢;obtain⟨a,kvs,h1,h2,h3⟩:=h;exact⟨a,kvs,h1,zB3 hS h2 (λo v z=>nomatch z),h3⟩
 | .lam _ _ _,_,n,_=>by rw[noF] at n;cases n
 | .obj c ns ds,_,n,h=>by
  rw[noF] at n;rw[Den] at h ⊢;obtain⟨a,vs,h1,⟨C,dx,gs,h2,h3⟩,h4⟩:=h;exact⟨a,vs,h1,⟨C,dx,gs,zB3 hS h2 (λo v z=>nomatch z),h3⟩,DenL.hideC hS n h4⟩
 | .fn _ x,_,_,h=>by rw[Den] at h ⊢;exact h
theorem DenL.hideC (hS:zQe H S):∀ {ds:List D} {vs:List V},noFs ds=true->DenL K H ds vs->DenL K (hide H S) ds vs
 | [],_,_,h=>by rw[DenL] at h ⊢;exact h
 | d::ds,_,n,h=>by
  rw[noFs,x9] at n;rw[DenL] at h ⊢;obtain⟨v,ws,h1,h2,h3⟩:=h;exact⟨v,ws,h1,Den.hideC hS n.1 h2,DenL.hideC hS n.2 h3⟩
end
end
def zE3 (P:Program)(w:World)(K:W.Frag)(mg:Str->Option Value)(base:Heap)(k:Nat)(L:LamI)(F:List D->Option R):Prop :=
 ∀ (A:Around) (outer:List Env) (s:Shared) (H:Hp) (f:Addr) (vs:List V) (ds:List D) (v:V) (u:Value) (d:D) (r:R) (Q:VK) (E:XK),Room k A->Env0 P w K mg base A outer s H->zDb H L f vs->DenL K H ds vs->RelV v u->Den K H d v->F (d::ds)=some r->r.2≠.dt ->
  (∀ v' H',Same H H'->RV K H H' [] r v'->Q v' H')->codeAny (model P w) A (.call (.ref f) ⟨[u],[]⟩) (CR CX0 outer P w H s Q E) s
theorem zE3.mono {K:W.Frag}(h:zE3 P w K mg base j L F)(e:j<=k):zE3 P w K mg base k L F :=
 λA outer s H f vs ds v u d r Q E hr=>h A outer s H f vs ds v u d r Q E (hr.mono e)
theorem zPJ {K:W.Frag}(S:zFn x ys L)(ey:frN L=ys)
  (hb:∀ Y:Cx,Y.prog=P->Y.w=w->Y.K=K->Y.mg=mg->Y.base=base->Room k Y.A->Y.calm=true->Y.N=x::ys->Y.env.scope=L.scope->Y.xe=(λ_ _=>False)->GE Y L.body G) :
  zE3 P w K mg base (k+1) L (λds=>if ds.length=ys.length+1/\noFs ds=true then G (ds.map λd=>some (d,false)) else none):=by
 intro A outer s H f vs ds v u d r Q E hr e0 la dl rv dd hF hk c;replace hF:(if (d::ds).length=ys.length+1/\noFs (d::ds)=true then G ((d::ds).map λd=>some (d,false)) else none)=some r:=hF;have q:=Classical.byContradiction λz=>by rw[if_neg z] at hF;cases hF
 rw[if_pos q] at hF;have nf:=q.2;rw[noFs,x9] at nf;refine zMU hr e0 la ey S rv λcc cl hcl hc hS=>⟨_,hb _ rfl rfl rfl rfl rfl (hr.deeper _) rfl rfl rfl rfl,?_⟩
 have e1:=Den.hideC hS nf.1 dd;have e2:=DenL.hideC hS nf.2 dl;refine⟨[],(d::ds).map λd=>some (d,false),r,⟨?_,λa z=>absurd z (by simp),λi d' o z=>?_,λi j d' e' a z1 _ _ _=>?_⟩,hF,λv' H2 s2 r2 H' p1 p2 p3 p4=>?_⟩
 .rw [qy,xJ,xJ,qy,dl.length]
 .rw [getElem?_map] at z;obtain⟨d2,z1,z2⟩:=yq.mp z;cases z2;cases i with
  | zero =>
   have:d=d':=by simpa using z1
   subst this;exact⟨v,rfl,.of_den (by rw[zBy];exact e1)⟩
  | succ i =>
   have z1':ds[i]?=some d':=by simpa using z1
   obtain⟨v2,g1,g2⟩:=e2.get z1';exact⟨v2,by show (vs.map some)[i]?=_;rw[getElem?_map,g1];rfl,.of_den (by rw[zBy];exact g2)⟩
 .rw [getElem?_map] at z1;obtain⟨d2,_,z2⟩:=yq.mp z1;cases z2
 .have sm:Same H H':=λb o e=>by
   by_cases z:b∈cl.map (·.2)
   .rw [p1 b z];exact e
   .rw [p2 b z];exact s2 b o (by rw[zAL z];exact e)
  refine c v' H' sm ?_;obtain⟨d',kd⟩:=r;cases kd with
  | cl =>
   have z:Den K (hide H2 []) d' v':=r2;show Den K (hide H' []) d' v';rw[zBy] at z ⊢;exact z.mono p3
  | fr =>
   obtain⟨a,ws,es,e1,e2,e3,e4,e5,e6⟩:=r2;have na:a∉cl.map (·.2):=λz=>by rw[p4 a z] at e5;cases e5
   refine⟨a,ws,es,e1,e2,e3,by rw[zAL na] at e4;exact e4,p3 _ _ e5,e6.mono (zAM p3)⟩
  | dt=>exact absurd rfl hk
open Classical in
def lamF (lm:List (LamI×(List D->Option R)))(j:Nat)(L:LamI)(ds:List D):Option R:=match lm[j]? with
 | some (L',F)=>if L'=L then F ds else none
 | none=>none
noncomputable def fnvF (fns:List (Str×(List D->Option R)))(n:Nat)(x:Str)(ds:List D):Option R:=match fns[n]? with
 | some (y,F)=>if y=x then F ds else none
 | none=>none
def zEE (lm:List (LamI×(List D->Option R)))(fns:List (Str×(List D->Option R)))(i:Nat)(f:Dst->Option R):Dst->Option R:=λG=>match G[i]? with
 | some (some (.fn n y,false))=>(f G).bind λx=>if x.2=.dt then none else (fnvF fns n y [x.1]).bind λr=>if r.2=.dt then none else some r
 | some (some (.lam j L ds,false))=>(f G).bind λx=>if x.2=.dt then none else (lamF lm j L (x.1::ds)).bind λr=>if r.2=.dt then none else some r
 | _=>none
variable {X:Cx}
theorem zMm (LR:∀ (j:Nat) L F,lm[j]?=some (L,F)->zE3 X.prog X.w X.K X.mg X.base k L F)(FR:∀ x F,(x,F)∈fns->∃ f fd ps,FnOk X.prog X.w X.K X.mg X.base CX0 k f fd ps (spD X.K F)/\X.mg x=some (.ref f)/\W.keepIn X.K (.ref f)=true/\zBA X.K fd ps [])(hr:Room k X.A)(hN:X.N[i]?=some y)(hv:Vis X.env.scope y)(hd:(y==("__debug__":Str))=false)(hcd:(y==("__classdict__":Str))=false)
  (ha:GE X a f) (he:starEach (a::[]) X.env=(false,eval a X.env)::starEach [] X.env) (px:PassesOwn (model X.prog X.w) X.A X.env X.xe:=by assumption):GE X (.Call (.Name y p) [a] [] pos) (zEE lm fns i f):=by
 intro pins s B H Q I ⟨S,G,z,ds,e,c⟩;unfold zEE at e;split at e
 .rename_i n x0 q;obtain⟨x,ex,e⟩:=bind_some e;by_cases hx:x.2=.dt
  .rw [if_pos hx] at e;cases e
  rw[if_neg hx] at e;obtain⟨r,er,e⟩:=bind_some e;by_cases hk:r.2=.dt
  .rw [if_pos hk] at e;cases e
  rw[if_neg hk] at e;cases e;obtain⟨v0,q1,q2⟩:=ds.get i _ false q;have q3:=q2.den rfl;rw[Den] at q3;obtain⟨f0,rfl,cn⟩:=q3;unfold fnvF at er;split at er
  .rename_i y' F el;have eL:y'=x0:=Classical.byContradiction λz=>by rw[if_neg z] at er;cases er
   rw[if_pos eL] at er;subst eL;obtain⟨f1,fd,ps,FO,hm,hkp,hb⟩:=FR _ F (mem_of_getElem? el);have hm2:X.mg y'=some (.ref f0):=W.mg_of I.ok.mod.kin I.ok.mod.glob cn;rw[hm] at hm2;cases hm2;refine wpAny_Call_Name_kw (thn (zC0 hN hv hd hcd pins s B H (λx H1=>x=.ref f0/\H1=H) I ⟨_,q1,rfl,rfl⟩) λu s1 zz81=>?_);obtain⟨x1,H1,I1,rx,e1,e2⟩:=zz81;subst e1 e2;obtain rfl:u=Value.ref f0:=rx;refine W.callWith_K (h₀:=X.base) I1.ok.mod.kin hkp (thn (zAU ha zA1 he pos pins s1 B _ (λvs H2=>spD X.K F (vs++[]) H2 Q E0) I1 ?_) λus s2 zy138=>by obtain⟨vs,H2,I2,rr,qq⟩:=zy138;exact⟨I2.kIn,zES FO hr hb .nil zGp I2 rr qq⟩) he rfl;refine⟨S,G,x,ds,ex,λvx H2 s2 r2=>?_⟩;exact⟨S,[x.1],_,(ds.mono s2).sok,.cons (RV.den (d:=x.1) (k:=x.2) r2 hx) .nil,er,hk,λv H' s3 r3=>c v H' (s2.trans s3) (r3.from s2)⟩
  .cases er
 .rename_i j L dl q;obtain⟨x,ex,e⟩:=bind_some e;by_cases hx:x.2=.dt
  .rw [if_pos hx] at e;cases e
  rw[if_neg hx] at e;obtain⟨r,er,e⟩:=bind_some e;by_cases hk:r.2=.dt
  .rw [if_pos hk] at e;cases e
  rw[if_neg hk] at e;cases e;obtain⟨v0,q1,q2⟩:=ds.get i _ false q;have q3:=q2.den rfl;rw[Den] at q3;obtain⟨f0,vs,rfl,la,dla⟩:=q3;unfold lamF at er;split at er
  .rename_i L' F el;have eL:L'=L:=Classical.byContradiction λz=>by rw[if_neg z] at er;cases er
   rw[if_pos eL] at er;subst eL;have fat:∀ {H1:Hp} {s1:Shared},zDb H1 L' f0 vs->HOk X.prog X.w H1 s1.heap->W.FnAt f0 s1.heap:=λ{H1 s1} la hok=>by
    obtain⟨cl,pm,c',ctv,oc,u1,g1,_⟩:=la;obtain⟨g2,_⟩:=hok _ _ g1;exact⟨_,_,_,_,g2⟩
   refine wpAny_Call_Name_kw (thn (zC0 hN hv hd hcd pins s B H (λx H1=>x=.ref f0/\H1=H) I ⟨_,q1,rfl,rfl⟩) λu s1 zz82=>?_);obtain⟨x1,H1,I1,rx,e1,e2⟩:=zz82;subst e1 e2;obtain rfl:u=Value.ref f0:=rx;have arg:gT X.K f B H1 λvx H2=>Same H1 H2/\RV X.K H1 H2 S x vx:=⟨S,G,x,ds,ex,λvx H2 s2 r2=>⟨s2,r2⟩⟩
   refine W.callWith_F (fat (la.mono zAa) I1.hok) (thn (zAU ha zA1 he pos pins s1 B _ (λxs H2=>∃ vx,xs=[vx]/\Same H1 H2/\RV X.K H1 H2 S x vx) I1 (by
    obtain⟨S',G',r',g1,g2,g3⟩:=arg;exact⟨S',G',r',g1,g2,λvx H2 s2 r2=>⟨vx,rfl,g3 vx H2 s2 r2⟩⟩)) λus s2 ⟨xs,H2,I2,rvs,vx,exs,sm,rx2⟩=>?_) he
   subst exs;obtain⟨uu,rfl,rvu⟩:=zII rvs;have la2:zDb (hide H2 S) L' f0 vs:=la.mono (zAM sm);refine⟨fat (la2.mono zAa) I2.hok,?_⟩;refine wpAny_call (codeAny_mono (zD2 (r:=z) (Q:=Q) (E:=E0) I2.env0 (ds.mono sm).sok hk (λe1=>LR j L' F el _ _ _ _ f0 vs dl vx uu x.1 z _ _ hr e1 la2 (dla.mono (zAM sm)) rvu (RV.den (d:=x.1) (k:=x.2) rx2 hx) er hk λv' H' s3 r3=>⟨r3,s3⟩) λv H' s3 r3=>c v H' (sm.trans s3) (r3.from sm)) λrr s' hq=>?_);cases rr with
   | error e=>exact hq.elim
   | ok fl =>
    cases fl with
    | ret u=>exact I2.after hq
    | next=>exact False.elim hq
    | brk=>exact False.elim hq
    | cont=>exact False.elim hq
  .cases er
 .cases e
noncomputable def zGP (fns:List (Str×(List D->Option R)))(i:Nat)(g:Dst->Option (List D)):Dst->Option R:=λG=>match G[i]? with
 | some (some (.fn n y,false))=>(g G).bind λds=>(fnvF fns n y ds).bind λr=>if r.2=.dt then none else some r
 | _=>none
theorem zMl {k i:Nat}{fns:List (Str×(List D->Option R))}{y:Str}{a:Expr}{es:List Expr}{g:Dst->Option (List D)}{p pos:Pos}(FR:∀ x F,(x,F)∈fns->∃ f fd ps,FnOk X.prog X.w X.K X.mg X.base CX0 k f fd ps (spD X.K F)/\X.mg x=some (.ref f)/\W.keepIn X.K (.ref f)=true/\zBA X.K fd ps [])(hr:Room k X.A)(hN:X.N[i]?=some y)(hv:Vis X.env.scope y)(hd:(y==("__debug__":Str))=false)(hcd:(y==("__classdict__":Str))=false)
  (ha:GA X (a::es) g) (he:starEach (a::es) X.env=(false,eval a X.env)::starEach es X.env) (hpl:∀ pos,(backTo pos (starEach es X.env)).any (·.1)=false) (px:PassesOwn (model X.prog X.w) X.A X.env X.xe:=by assumption):GE X (.Call (.Name y p) (a::es) [] pos) (zGP fns i g):=by
 intro pins s B H Q I ⟨S,G,z,ds,e,c⟩;unfold zGP at e;split at e
 .rename_i n x0 q;obtain⟨xs,ex,e⟩:=bind_some e;obtain⟨r,er,e⟩:=bind_some e;by_cases hk:r.2=.dt
  .rw [if_pos hk] at e;cases e
  rw[if_neg hk] at e;cases e;obtain⟨v0,q1,q2⟩:=ds.get i _ false q;have q3:=q2.den rfl;rw[Den] at q3;obtain⟨f0,rfl,cn⟩:=q3;unfold fnvF at er;split at er
  .rename_i y' F el;have eL:y'=x0:=Classical.byContradiction λz=>by rw[if_neg z] at er;cases er
   rw[if_pos eL] at er;subst eL;obtain⟨f1,fd,ps,FO,hm,hkp,hb⟩:=FR _ F (mem_of_getElem? el);have hm2:X.mg y'=some (.ref f0):=W.mg_of I.ok.mod.kin I.ok.mod.glob cn;rw[hm] at hm2;cases hm2;refine wpAny_Call_Name_kw (thn (zC0 hN hv hd hcd pins s B H (λx H1=>x=.ref f0/\H1=H) I ⟨_,q1,rfl,rfl⟩) λu s1 zz83=>?_);obtain⟨x1,H1,I1,rx,e1,e2⟩:=zz83;subst e1 e2;obtain rfl:u=Value.ref f0:=rx;refine W.callWith_K (h₀:=X.base) I1.ok.mod.kin hkp (thn (ha pos pins s1 B _ (λvs H2=>spD X.K F (vs++[]) H2 Q E0) I1 ⟨S,G,xs,ds,ex,λvs H2 s2 dl=>⟨S,xs,_,(ds.mono s2).sok,by rw[append_nil];exact dl,er,hk,λv H' s3 r3=>c v H' (s2.trans s3) (r3.from s2)⟩⟩) λus s2 zy139=>by obtain⟨vs,H2,I2,rr,qq⟩:=zy139;exact⟨I2.kIn,zES FO hr hb .nil zGp I2 rr qq⟩) he (hpl pos)
  .cases er
 .cases e
end DL
end
section
namespace DL
open PySem Spec PyProof.Rows L2
variable {X:Cx}
noncomputable def fldD (ob:List (Str×Str×Option Bool))(f:Str):D->Option R
 | .obj c ns l=>if (c,f,none)∈ob then ((ns.zip l).lookup f).map λd=>(d,.cl) else none
 | _=>none
theorem zKh {K:W.Frag}{gs:List (Str×V)}:∀ {ns:List Str} {vs:List V} {l:List D},(ns.map λn=>gs.lookup n)=vs.map some->DenL K H l vs->(ns.zip l).lookup f=some d->∃ v,gs.lookup f=some v/\Den K H d v
 | [],_,_,_,_,e=>by simp at e
 | n::ns,vs,[],_,_,e=>by simp at e
 | n::ns,vs,x::l,h,t,e=>by
  rw[DenL] at t;obtain⟨v,us,rfl,t1,t2⟩:=t;simp only[map_cons,List.cons.injEq] at h;rw[List.zip_cons_cons,lookup_cons] at e;by_cases q:(f==n)=true
  .rw [q] at e;cases e;exact⟨v,by rw[eq_of_beq q];exact h.1,t1⟩
  .rw [Bool.not_eq_true] at q;rw[q] at e;exact zKh h.2 t2 e
theorem Rdv.obj {K:W.Frag}(h:Rdv K H S (.obj c ns l) v):Den K (hide H S) (.obj c ns l) v:=by
 rcases h with h | ⟨_,_,_,_,h2,_⟩
 .omega
 .cases h2
theorem zSY (ha:GE X e g)(hb:attributeBase e fl X.env (eval e X.env)=eval e X.env)(ho:∀ c,(c,fl,none)∈ob->∀ C,zB6 X.K c C->Cls X.K C/\zBE X.K C fl):GE X (.Attribute e fl pos) (one g (fldD ob fl)):=by
 refine(zNr ha hb).imp λB H Q zz84=>?_
 obtain⟨S,G,z,ds,e,c⟩:=zz84;obtain⟨x,ex,e⟩:=bind_some e;unfold fldD at e;split at e
 .rename_i cc ns l hx;by_cases m:(cc,fl,none)∈ob
  .rw [if_pos m] at e;obtain⟨d,e1,e2⟩:=yq.mp e;cases e2;refine⟨S,G,x,ds,ex,λvx H1 s1 r1=>?_⟩;have r2:=r1.rd;rw[hx] at r2;have r3:=r2.obj;rw[Den] at r3;obtain⟨a,vs,rfl,⟨C,dx,gs,h1,h2,h3,h4⟩,h5⟩:=r3;obtain⟨v,q1,q2⟩:=zKh h4 h5 e1;obtain⟨o1,o2⟩:=ho cc m C h3;exact⟨a,C,dx,gs,v,rfl,zAa _ _ h1,o1,o2,q1,c v H1 s1 q2⟩
  .rw [if_neg m] at e;cases e
 .cases e
structure OCls (K:W.Frag)(C:Addr):Prop where
 cl:Cls K C
 ha:W.findIn K (.ref C) "__class__"=some (some (.builtin "object.__class__"))
 hm:W.mroIn K C (.type "object")=some true
 hn:W.specialIn K (.builtin "object.__class__") "__get__"=some (some (.builtin "getset_descriptor.__get__"))
 htk:W.takesIn K (.builtin "object.__class__")=some true
def ObOk (K:W.Frag)(mg:Str->Option Value)(p:Str×Str×Option Bool):Prop:=match p.2.2 with
 | none=>∀ C,zB6 K p.1 C->Cls K C/\zBE K C p.2.1
 | some b=>∃ Y,mg p.2.1=some (.ref Y)/\∀ C,zB6 K p.1 C->OCls K C/\W.kitOne K (.ref C) (.ref Y)=some b
end DL
end
section
namespace DL
open PySem Spec PyProof.Rows L2
set_option genSizeOf false in
set_option genInjectivity false in
inductive E where
 | var (i:Nat) | glob (n:Nat) (x:Str) | int (i:Int) | bl (b:Bool) | non | str (x:Str)
 | bin (op:Operator) (a b:E) | neg (a:E) | not (a:E) | cmp (op:CmpOp) (a b:E)
 | andl (es:E) | orl (es:E) | ite (c a b:E) | tup (es:E) | lst (es:E) | ix (a i:E) | sl (a lo hi:E)
 | comp1 (n:Nat) (ms:List Nat) (x:Str) (src c elt:E) 
 | lzip (a b:E)
 | it (e:E) | r1 (a:E) | r2 (a b:E) | r3 (a b c:E)
 | call (n:Nat) (f:Str) (es:E) | len (a:E) | abs (a:E) | list (a:E) | max (a b:E) | isi (t:Ty) (a:E) | chn (op op':CmpOp) (a b c:E) | tupl (a:E) | lrev (a:E) | callv (i:Nat) (a:E) | callw (i:Nat) (es:E) | fld (a:E) (f:Str) 
 | nil | cons (e es:E)
set_option genSizeOf false in
set_option genInjectivity false in
inductive S where
 | nil | cons (a b:S) | frz (i:Nat) (rest:S)
 | set (i:Nat) (e:E) | setC (i:Nat) (e:E) | app (i:Nat) (e:E) 
 | ife (c:E) (a b:S) | whl (c:E) (b:S) | for1 (i:Nat) (it:E) (b:S) 
 | ret (e:E) | retOwn (i:Nat) | never | ext (i:Nat) (e:E) | aug (op:Operator) (i:Nat) (e:E) | rse (c:Str) (m:E) 
structure Gm where
 fns:List (Str×(List D->Option R))
 cs:List (Str×D)
 xf:List (Str×(List D->Option Str))
 sub:List (Str×Str×Bool)
 rs:List Str
 lm:List (LamI×(List D->Option R))
 ob:List (Str×Str×Option Bool)
open Classical in
def mulD (i j:Int):Option R:=if IntMulOk i j then some (.int (i*j),.cl) else none
open Classical in
def zMt (i j:Int):Option R:=if zIu i j then some (.int (i.fdiv j),.cl) else none
def binD (op:Operator)(x y:D):Option R:=match op with
 | .Add=>(match x,y with
  | .int i,.int j=>some (.int (i+j),.cl)
  | .lst xs,.lst ys=>if xs.length+ys.length<=10000 then some (.lst (xs++ys),.fr) else none
  | .tup (x::xs),.tup (y::ys)=>if (x::xs).length+(y::ys).length<=10000 then some (.tup ((x::xs)++(y::ys)),.cl) else none
  | _,_=>none)
 | .Sub=>(match x,y with
  | .int i,.int j=>some (.int (i - j),.cl)
  | _,_=>none)
 | .Mult=>(match x,y with
  | .int i,.int j=>mulD i j
  | .lst xs,.int j=>if 0<=j/\j<=10000/\xs.length*j.toNat<=10000 then some (.lst (List.replicate j.toNat xs).flatten,.fr) else none
  | _,_=>none)
 | .FloorDiv=>(match x,y with
  | .int i,.int j=>zMt i j
  | _,_=>none)
 | .Mod=>(match x,y with
  | .int i,.int j=>if j=0 then none else some (.int (i.fmod j),.cl)
  | _,_=>none)
 | .Pow=>(match x,y with
  | .int i,.int j=>if 0<=j/\j<=1000000/\i.natAbs < 2^64 then some (.int (i^j.toNat),.cl) else none
  | _,_=>none)
 | _=>none
def cmpD (op:CmpOp)(x y:D):Option R:=match op with
 | .Lt=>(match x,y with
  | .int i,.int j=>some (.bl (decide (i < j)),.cl)
  | _,_=>none)
 | .LtE=>(match x,y with
  | .int i,.int j=>some (.bl (decide (i<=j)),.cl)
  | _,_=>none)
 | .Gt=>(match x,y with
  | .int i,.int j=>some (.bl (decide (j < i)),.cl)
  | _,_=>none)
 | .GtE=>(match x,y with
  | .int i,.int j=>some (.bl (decide (j<=i)),.cl)
  | _,_=>none)
 | .Eq=>eqD id x y
 | .NotEq=>eqD (λb=>!b) x y
 | .Is=>isN id x y
 | .IsNot=>isN (λb=>!b) x y
 | _=>none
noncomputable def zGF (J:Gm)(n:Nat)(x:Str):Dst->Option R:=λ_=>match J.cs[n]? with
 | some (y,d)=>if y=x then some (d,.cl) else none
 | none=>none
noncomputable def fnD (J:Gm)(n:Nat)(x:Str)(g:Dst->Option (List D)):Dst->Option R:=λG=>match J.fns[n]? with
 | some (y,F)=>if y=x then zIp F g G else none
 | none=>none
noncomputable def tg1 (i:Nat):D->Dst->Option Dst:=λd G=>some (G.set i (some (d,false)))
mutual
def evE (J:Gm):E->Dst->Option R
 | .var i=>varD i
 | .glob n x=>zGF J n x
 | .int i=>λ_=>some (.int i,.cl)
 | .bl b=>λ_=>some (.bl b,.cl)
 | .non=>λ_=>some (.non,.cl)
 | .str x=>λ_=>some (.str x,.cl)
 | .bin op a b=>two (evE J a) (evE J b) (binD op)
 | .neg a=>negD (evE J a)
 | .not a=>notD (evE J a)
 | .cmp op a b=>two (evE J a) (evE J b) (cmpD op)
 | .andl es=>evAnd J es
 | .orl es=>evOr J es
 | .ite c a b=>iteD (evE J c) (evE J a) (evE J b)
 | .tup es=>tupD (evEs J es)
 | .lst es=>lstD (evEs J es)
 | .ix a i=>two (evE J a) (evE J i) ixD
 | .sl a lo hi=>slD (evE J a) (evO J lo) (evO J hi)
 | .call n f es=>fnD J n f (evEs J es)
 | .len a=>one (evE J a) lenD
 | .abs a=>one (evE J a) absD
 | .list a=>one (evE J a) zIc
 | .max a b=>two (evE J a) (evE J b) maxD
 | .isi t a=>one (evE J a) (isiF t)
 | .chn op op' a b c=>chD (cmpD op) (cmpD op') (evE J a) (evE J b) (evE J c)
 | .tupl a=>one (evE J a) zFq
 | .lrev a=>one (evE J a) revD
 | .callv i a=>zEE J.lm J.fns i (evE J a)
 | .callw i es=>zGP J.fns i (evEs J es)
 | .fld a f=>one (evE J a) (fldD J.ob f)
 | .comp1 n ms _ src c e=>zIo ms 1 (evI J src) (tg1 n) (evC J c) (evE J e)
 | .lzip a b=>two (evE J a) (evE J b) zipD
 | .it _=>λ_=>none
 | .r1 _=>λ_=>none
 | .r2 _ _=>λ_=>none
 | .r3 _ _ _=>λ_=>none
 | .nil=>λ_=>none
 | .cons _ _=>λ_=>none
def evI (J:Gm):E->Dst->Option (List D)
 | .it e=>zGB (evE J e)
 | .r1 a=>zJN (evE J a)
 | .r2 a b=>zL1 (evE J a) (evE J b)
 | .r3 a b c=>zJM (evE J a) (evE J b) (evE J c)
 | _=>λ_=>none
def evC (J:Gm):E->Dst->Option Bool
 | .nil=>λ_=>some true
 | .cons c _=>asB (evE J c)
 | _=>λ_=>none
def evEs (J:Gm):E->Dst->Option (List D)
 | .nil=>λ_=>some []
 | .cons e es=>zNH (evE J e) (evEs J es)
 | _=>λ_=>none
def evLs (J:Gm):E->Dst->Option (List D)
 | .nil=>λ_=>some []
 | .cons e es=>zTA (evE J e) (evLs J es)
 | _=>λ_=>none
def evAnd (J:Gm):E->Dst->Option R
 | .cons e es=>(match es with
  | .nil=>evE J e
  | es=>andD (evE J e) (evAnd J es))
 | _=>λ_=>none
def evOr (J:Gm):E->Dst->Option R
 | .cons e es=>(match es with
  | .nil=>evE J e
  | es=>orD (evE J e) (evOr J es))
 | _=>λ_=>none
def evO (J:Gm):E->Dst->Option (Option Int)
 | .cons e _=>zJe (evE J e)
 | _=>λ_=>some none
end
noncomputable def xvS (J:Gm):S->Dst->Option Str:=λ_ _=>none
noncomputable def xvSs (J:Gm):S->Dst->Option Str:=λ_ _=>none
mutual
def evS (J:Gm):S->Dst->Option Out
 | .set i e=>setD i (evE J e)
 | .setC i e=>setD i (evE J e)
 | .app i e=>appD i (evE J e)
 | .ext i e=>extD i (evE J e)
 | .aug op i e=>augD op i (evE J e)
 | .ife c a b=>ifD (asB (evE J c)) (evSs J a) (evSs J b)
 | .whl c b=>zBH (asB (evE J c)) (evSs J b)
 | .for1 i it b=>λG=>(evI J it G).bind λxs=>forD (tg1 i) (evSs J b) xs G
 | .ret e=>retD (evE J e)
 | .retOwn i=>zDn i
 | .nil=>λ_=>none
 | .cons _ _=>λ_=>none
 | .frz _ _=>λ_=>none
 | .never=>λ_=>none
 | .rse _ _=>λ_=>none
def evSs (J:Gm):S->Dst->Option Out
 | .nil=>λG=>some (.nx G)
 | .cons a b=>seqD (evS J a) (evSs J b)
 | .frz i r=>seqD (frzD i) (evSs J r)
 | _=>λ_=>none
end
noncomputable def visB (sc:Scope)(x:Str):Bool:=match sc.names.lookup x with
 | some .local=>true
 | some .cell=>true
 | some .free=>true
 | _=>false
noncomputable def locB (sc:Scope)(x:Str):Bool:=match sc.names.lookup x with
 | some .local=>true
 | some .cell=>true
 | _=>false
noncomputable def glB (sc:Scope)(x:Str):Bool:=match sc.names.lookup x with
 | some .globalImplicit=>true
 | _=>false
noncomputable def okN (x:Str):Bool:=!(x==("__debug__":Str))&&!(x==("__classdict__":Str))
noncomputable def zAV:Expr->Bool
 | .Starred _ _=>false
 | _=>true
noncomputable def zDt:Expr->Bool
 | .Slice _ _ _ _=>false
 | _=>true
noncomputable def zEd:Expr->Bool
 | .ListComp _ _ _ _=>false
 | .SetComp _ _ _ _=>false
 | .DictComp _ _ _ _ _=>false
 | _=>true
noncomputable def zJw:Expr->Bool
 | .Set _ _ _=>false
 | _=>true
noncomputable def bltB (sc:Scope)(bs:List Str)(x:Str):Bool:=glB sc x&&bs.contains x
noncomputable def opB (op op':Operator):Bool:=decide (op=op')
noncomputable def cmB (op op':CmpOp):Bool:=decide (op=op')
noncomputable def cscB (sc scope:Scope):Bool:=(scope.kind==.function)&&decide ((scope.names.map (·.1)).Nodup)&&scope.names.all λx=>!(x.2==.free)||sc.names.lookup x.1==some .cell||sc.names.lookup x.1==some .free
noncomputable def zMH (scope:Scope)(N:List Str)(ms:List Nat):Bool:=(List.range N.length).all λi=>!(ownB scope (N.getD i (noN N)))||ms.contains i
noncomputable def zRZ:Expr->Bool
 | .Name _ _=>true
 | _=>false
noncomputable def zAq (e:Expr)(k:Str->Pos->Bool):Bool:=match e with
 | .Name x0 x1=>k x0 x1
 | _=>false
theorem zAK (h:zAq e k=true):∃ x0 x1,e=.Name x0 x1/\k x0 x1=true:=by
 cases e<;>first | exact⟨_,_,rfl,h⟩ | exact nof h
noncomputable def zBl (e:Expr)(k:Const->Nat->Pos->Bool):Bool:=match e with
 | .Constant x0 x1 x2=>k x0 x1 x2
 | _=>false
theorem zBJ (h:zBl e k=true):∃ x0 x1 x2,e=.Constant x0 x1 x2/\k x0 x1 x2=true:=by
 cases e<;>first | exact⟨_,_,_,rfl,h⟩ | exact nof h
noncomputable def zGt (e:Expr)(k:Expr->Operator->Expr->Pos->Bool):Bool:=match e with
 | .BinOp x0 x1 x2 x3=>k x0 x1 x2 x3
 | _=>false
theorem zEZ (h:zGt e k=true):∃ x0 x1 x2 x3,e=.BinOp x0 x1 x2 x3/\k x0 x1 x2 x3=true:=by
 cases e<;>first | exact⟨_,_,_,_,rfl,h⟩ | exact nof h
noncomputable def zC1 (e:Expr)(k:UnaryOp->Expr->Pos->Bool):Bool:=match e with
 | .UnaryOp x0 x1 x2=>k x0 x1 x2
 | _=>false
theorem zCE (h:zC1 e k=true):∃ x0 x1 x2,e=.UnaryOp x0 x1 x2/\k x0 x1 x2=true:=by
 cases e<;>first | exact⟨_,_,_,rfl,h⟩ | exact nof h
noncomputable def zFS (e:Expr)(k:BoolOp->List Expr->Pos->Bool):Bool:=match e with
 | .BoolOp x0 x1 x2=>k x0 x1 x2
 | _=>false
theorem zDr (h:zFS e k=true):∃ x0 x1 x2,e=.BoolOp x0 x1 x2/\k x0 x1 x2=true:=by
 cases e<;>first | exact⟨_,_,_,rfl,h⟩ | exact nof h
noncomputable def zDq (e:Expr)(k:Expr->List CmpOp->List Expr->Pos->Bool):Bool:=match e with
 | .Compare x0 x1 x2 x3=>k x0 x1 x2 x3
 | _=>false
theorem zDO (h:zDq e k=true):∃ x0 x1 x2 x3,e=.Compare x0 x1 x2 x3/\k x0 x1 x2 x3=true:=by
 cases e<;>first | exact⟨_,_,_,_,rfl,h⟩ | exact nof h
noncomputable def zJq (e:Expr)(k:Expr->Expr->Expr->Pos->Bool):Bool:=match e with
 | .IfExp x0 x1 x2 x3=>k x0 x1 x2 x3
 | _=>false
theorem zIU (h:zJq e k=true):∃ x0 x1 x2 x3,e=.IfExp x0 x1 x2 x3/\k x0 x1 x2 x3=true:=by
 cases e<;>first | exact⟨_,_,_,_,rfl,h⟩ | exact nof h
noncomputable def zGr (e:Expr)(k:List Expr->Nat->Pos->Bool):Bool:=match e with
 | .Tuple x0 x1 x2=>k x0 x1 x2
 | _=>false
theorem zEW (h:zGr e k=true):∃ x0 x1 x2,e=.Tuple x0 x1 x2/\k x0 x1 x2=true:=by
 cases e<;>first | exact⟨_,_,_,rfl,h⟩ | exact nof h
noncomputable def zJo (e:Expr)(k:List Expr->Pos->Bool):Bool:=match e with
 | .List x0 x1=>k x0 x1
 | _=>false
theorem zF1 (h:zJo e k=true):∃ x0 x1,e=.List x0 x1/\k x0 x1=true:=by
 cases e<;>first | exact⟨_,_,rfl,h⟩ | exact nof h
noncomputable def zA8 (e:Expr)(k:Expr->Expr->Pos->Bool):Bool:=match e with
 | .Subscript x0 x1 x2=>k x0 x1 x2
 | _=>false
theorem zAu (h:zA8 e k=true):∃ x0 x1 x2,e=.Subscript x0 x1 x2/\k x0 x1 x2=true:=by
 cases e<;>first | exact⟨_,_,_,rfl,h⟩ | exact nof h
noncomputable def zGs (e:Expr)(k:Option Expr->Option Expr->Option Expr->Pos->Bool):Bool:=match e with
 | .Slice x0 x1 x2 x3=>k x0 x1 x2 x3
 | _=>false
theorem zEX (h:zGs e k=true):∃ x0 x1 x2 x3,e=.Slice x0 x1 x2 x3/\k x0 x1 x2 x3=true:=by
 cases e<;>first | exact⟨_,_,_,_,rfl,h⟩ | exact nof h
noncomputable def zB8 (e:Expr)(k:Expr->List Expr->List Keyword->Pos->Bool):Bool:=match e with
 | .Call x0 x1 x2 x3=>k x0 x1 x2 x3
 | _=>false
theorem zAv (h:zB8 e k=true):∃ x0 x1 x2 x3,e=.Call x0 x1 x2 x3/\k x0 x1 x2 x3=true:=by
 cases e<;>first | exact⟨_,_,_,_,rfl,h⟩ | exact nof h
noncomputable def zDD (e:Expr)(k:Expr->List Comprehension->Scope->Pos->Bool):Bool:=match e with
 | .ListComp x0 x1 x2 x3=>k x0 x1 x2 x3
 | _=>false
theorem zBu (h:zDD e k=true):∃ x0 x1 x2 x3,e=.ListComp x0 x1 x2 x3/\k x0 x1 x2 x3=true:=by
 cases e<;>first | exact⟨_,_,_,_,rfl,h⟩ | exact nof h
noncomputable def zAr (e:Expr)(k:Expr->Str->Pos->Bool):Bool:=match e with
 | .Attribute x0 x1 x2=>k x0 x1 x2
 | _=>false
theorem zAf (h:zAr e k=true):∃ x0 x1 x2,e=.Attribute x0 x1 x2/\k x0 x1 x2=true:=by
 cases e<;>first | exact⟨_,_,_,rfl,h⟩ | exact nof h
noncomputable def zBv (e:Stmt)(k:List Expr->Expr->Pos->Bool):Bool:=match e with
 | .Assign x0 x1 x2=>k x0 x1 x2
 | _=>false
theorem zA9 (h:zBv e k=true):∃ x0 x1 x2,e=.Assign x0 x1 x2/\k x0 x1 x2=true:=by
 cases e<;>first | exact⟨_,_,_,rfl,h⟩ | exact nof h
noncomputable def zDs (e:Stmt)(k:Expr->Operator->Expr->Pos->Bool):Bool:=match e with
 | .AugAssign x0 x1 x2 x3=>k x0 x1 x2 x3
 | _=>false
theorem zEK (h:zDs e k=true):∃ x0 x1 x2 x3,e=.AugAssign x0 x1 x2 x3/\k x0 x1 x2 x3=true:=by
 cases e<;>first | exact⟨_,_,_,_,rfl,h⟩ | exact nof h
noncomputable def zFQ (e:Stmt)(k:Expr->Pos->Bool):Bool:=match e with
 | .Expr x0 x1=>k x0 x1
 | _=>false
theorem zDC (h:zFQ e k=true):∃ x0 x1,e=.Expr x0 x1/\k x0 x1=true:=by
 cases e<;>first | exact⟨_,_,rfl,h⟩ | exact nof h
noncomputable def onIf (e:Stmt)(k:Expr->List Stmt->List Stmt->Pos->Bool):Bool:=match e with
 | .If x0 x1 x2 x3=>k x0 x1 x2 x3
 | _=>false
theorem zJp (h:onIf e k=true):∃ x0 x1 x2 x3,e=.If x0 x1 x2 x3/\k x0 x1 x2 x3=true:=by
 cases e<;>first | exact⟨_,_,_,_,rfl,h⟩ | exact nof h
noncomputable def zJn (e:Stmt)(k:Expr->List Stmt->List Stmt->Pos->Bool):Bool:=match e with
 | .While x0 x1 x2 x3=>k x0 x1 x2 x3
 | _=>false
theorem zIT (h:zJn e k=true):∃ x0 x1 x2 x3,e=.While x0 x1 x2 x3/\k x0 x1 x2 x3=true:=by
 cases e<;>first | exact⟨_,_,_,_,rfl,h⟩ | exact nof h
noncomputable def zOx (e:Stmt)(k:Expr->Expr->List Stmt->List Stmt->Pos->Bool):Bool:=match e with
 | .For x0 x1 x2 x3 x4=>k x0 x1 x2 x3 x4
 | _=>false
theorem zHe (h:zOx e k=true):∃ x0 x1 x2 x3 x4,e=.For x0 x1 x2 x3 x4/\k x0 x1 x2 x3 x4=true:=by
 cases e<;>first | exact⟨_,_,_,_,_,rfl,h⟩ | exact nof h
noncomputable def zDd (e:Stmt)(k:Option Expr->Pos->Bool):Bool:=match e with
 | .Return x0 x1=>k x0 x1
 | _=>false
theorem zCl (h:zDd e k=true):∃ x0 x1,e=.Return x0 x1/\k x0 x1=true:=by
 cases e<;>first | exact⟨_,_,rfl,h⟩ | exact nof h
noncomputable def onRaise (e:Stmt)(k:Option Expr->Option Expr->Pos->Bool):Bool:=match e with
 | .Raise x0 x1 x2=>k x0 x1 x2
 | _=>false
noncomputable def zNz (e:Const)(k:Int->Bool):Bool:=match e with
 | .int x=>k x
 | _=>false
theorem zJs (h:zNz e k=true):∃ x,e=.int x/\k x=true:=by
 cases e<;>first | exact⟨_,rfl,h⟩ | exact nof h
noncomputable def zJt (e:Const)(k:Bool->Bool):Bool:=match e with
 | .bool x=>k x
 | _=>false
theorem zIV (h:zJt e k=true):∃ x,e=.bool x/\k x=true:=by
 cases e<;>first | exact⟨_,rfl,h⟩ | exact nof h
noncomputable def zNy (e:Const)(k:Str->Bool):Bool:=match e with
 | .str x=>k x
 | _=>false
theorem zJr (h:zNy e k=true):∃ x,e=.str x/\k x=true:=by
 cases e<;>first | exact⟨_,rfl,h⟩ | exact nof h
noncomputable def onEq {T:Type}[DecidableEq T](a b:T)(k:Bool):Bool:=decide (a=b)&&k
theorem zDE {T:Type}[DecidableEq T]{a b:T}{k:Bool}(h:onEq a b k=true):a=b/\k=true:=by
 unfold onEq at h;grind
noncomputable def on0 {T:Type}(l:List T)(k:Bool):Bool:=match l with
 | []=>k
 | _=>false
theorem zBP {T:Type}{l:List T}{k:Bool}(h:on0 l k=true):l=[]/\k=true:=by
 cases l with
 | nil=>exact⟨rfl,h⟩
 | cons _ _=>exact nof h
noncomputable def on1 {T:Type}(l:List T)(k:T->Bool):Bool:=match l with
 | [x0]=>k x0
 | _=>false
theorem zAm {T:Type}{l:List T}{k:T->Bool}(h:on1 l k=true):∃ x0,l=[x0]/\k x0=true:=by
 cases l with
 | nil=>exact nof h
 | cons x0 l =>
  cases l with
  | nil=>exact⟨x0,rfl,h⟩
  | cons _ _=>exact nof h
noncomputable def on2 {T:Type}(l:List T)(k:T->T->Bool):Bool:=match l with
 | [x0,x1]=>k x0 x1
 | _=>false
theorem zEa {T:Type}{l:List T}{k:T->T->Bool}(h:on2 l k=true):∃ x0 x1,l=[x0,x1]/\k x0 x1=true:=by
 cases l with
 | nil=>exact nof h
 | cons x0 l =>
  cases l with
  | nil=>exact nof h
  | cons x1 l =>
   cases l with
   | nil=>exact⟨x0,x1,rfl,h⟩
   | cons _ _=>exact nof h
noncomputable def on3 {T:Type}(l:List T)(k:T->T->T->Bool):Bool:=match l with
 | [x0,x1,x2]=>k x0 x1 x2
 | _=>false
theorem zRW {T:Type}{l:List T}{k:T->T->T->Bool}(h:on3 l k=true):∃ x0 x1 x2,l=[x0,x1,x2]/\k x0 x1 x2=true:=by
 cases l with
 | nil=>exact nof h
 | cons x0 l =>
  cases l with
  | nil=>exact nof h
  | cons x1 l =>
   cases l with
   | nil=>exact nof h
   | cons x2 l =>
    cases l with
    | nil=>exact⟨x0,x1,x2,rfl,h⟩
    | cons _ _=>exact nof h
noncomputable def zHf {T:Type}(l:List T)(k:T->List T->Bool):Bool:=match l with
 | x::xs=>k x xs
 | _=>false
theorem zDp {T:Type}{l:List T}{k:T->List T->Bool}(h:zHf l k=true):∃ x xs,l=x::xs/\k x xs=true:=by
 cases l with
 | nil=>exact nof h
 | cons x xs=>exact⟨x,xs,rfl,h⟩
noncomputable def zDo {T:Type}(o:Option T)(k:T->Bool):Bool:=match o with
 | some x=>k x
 | none=>false
theorem zCF {T:Type}{o:Option T}{k:T->Bool}(h:zDo o k=true):∃ x,o=some x/\k x=true:=by
 cases o with
 | none=>exact nof h
 | some x=>exact⟨x,rfl,h⟩
noncomputable def zEY {T:Type}(o:Option T)(k:Bool):Bool:=match o with
 | some _=>false
 | none=>k
theorem zC2 {T:Type}{o:Option T}{k:Bool}(h:zEY o k=true):o=none/\k=true:=by
 cases o with
 | none=>exact⟨rfl,h⟩
 | some x=>exact nof h
noncomputable def zOw (g:Comprehension)(k:Expr->Expr->List Expr->Int->Bool):Bool:=k g.target g.iter g.ifs g.is_async
theorem zFR (h:zOw g k=true):∃ a b c d,g=⟨a,b,c,d⟩/\k a b c d=true:=by
 cases g;exact⟨_,_,_,_,rfl,h⟩
noncomputable def onC (e:Expr)(k:Str->List Expr->Bool):Bool:=zB8 e λz1 z2 z3 _=>zAq z1 λy _=>on0 z3<|k y z2
theorem zBO (h:onC e k=true):∃ y p l pos,e=.Call (.Name y p) l [] pos/\k y l=true:=by
 obtain⟨z1,l,z3,pos,rfl,h1⟩:=zAv h;obtain⟨y,p,rfl,h2⟩:=zAK h1;obtain⟨rfl,h3⟩:=zBP h2;exact⟨y,p,l,pos,rfl,h3⟩
mutual
noncomputable def cE:E->Scope->List Str->List Str->Expr->Bool
 | .var i,sc,N,bs=>λe=>zAq e λy _=>decide (N[i]?=some y)&&visB sc y&&okN y
 | .glob _ x,sc,N,bs=>λe=>zAq e λy _=>decide (x=y)&&glB sc x&&okN x
 | .int i,sc,N,bs=>λe=>zBl e λz1 _ _=>zNz z1 λj=>decide (i=j)
 | .bl b,sc,N,bs=>λe=>zBl e λz1 _ _=>zJt z1 λc=>decide (b=c)
 | .non,sc,N,bs=>λe=>zBl e λz1 _ _=>onEq z1 .none<|(true)
 | .str x,sc,N,bs=>λe=>zBl e λz1 _ _=>zNy z1 λy=>decide (x=y)
 | .bin op a b,sc,N,bs=>λe=>zGt e λl op' r _=>opB op op'&&cE a sc N bs l&&cE b sc N bs r
 | .neg a,sc,N,bs=>λe=>zC1 e λz1 l _=>onEq z1 .USub<|(cE a sc N bs l)
 | .not a,sc,N,bs=>λe=>zC1 e λz1 l _=>onEq z1 .Not<|(cE a sc N bs l)
 | .cmp op a b,sc,N,bs=>λe=>zDq e λl z1 z2 _=>on1 z1 λop'=>on1 z2 λr=>cmB op op'&&cE a sc N bs l&&cE b sc N bs r
 | .andl es,sc,N,bs=>λe=>zFS e λz1 l _=>onEq z1 .And<|(cEs es sc N bs l)
 | .orl es,sc,N,bs=>λe=>zFS e λz1 l _=>onEq z1 .Or<|(cEs es sc N bs l)
 | .ite c a b,sc,N,bs=>λe=>zJq e λt l r _=>cE c sc N bs t&&cE a sc N bs l&&cE b sc N bs r
 | .tup es,sc,N,bs=>λe=>zGr e λl _ _=>cEs es sc N bs l
 | .lst es,sc,N,bs=>λe=>zJo e λl _=>cEs es sc N bs l
 | .ix a i,sc,N,bs=>λe=>zA8 e λl r _=>zDt r&&cE a sc N bs l&&cE i sc N bs r
 | .sl a lo hi,sc,N,bs=>λe=>zA8 e λl z1 _=>zGs z1 λx y z2 _=>zEY z2<|(cE a sc N bs l&&cO lo sc N bs x&&cO hi sc N bs y)
 | .call _ f es,sc,N,bs=>λe=>onC e λy l=>(decide (f=y)&&glB sc f&&okN f&&cEs es sc N bs l)
 | .len a,sc,N,bs=>λe=>onC e λy z2=>on1 z2 λl=>(decide (y = "len")&&bltB sc bs "len"&&zAV l&&cE a sc N bs l)
 | .callw i es,sc,N,bs=>λe=>onC e λy z2=>zHf z2 λx xs=>(decide (N[i]?=some y)&&visB sc y&&okN y&&cEs es sc N bs (x::xs))
 | .callv i a,sc,N,bs=>λe=>onC e λy z2=>on1 z2 λx=>(decide (N[i]?=some y)&&visB sc y&&okN y&&zAV x&&cE a sc N bs x)
 | .fld a f,sc,N,bs=>λe=>zAr e λl m _=>decide (m=f)&&zRZ l&&cE a sc N bs l
 | .abs a,sc,N,bs=>λe=>onC e λy z2=>on1 z2 λl=>(decide (y = "abs")&&bltB sc bs "abs"&&zAV l&&cE a sc N bs l)
 | .list a,sc,N,bs=>λe=>onC e λy z2=>on1 z2 λl=>(decide (y = "list")&&bltB sc bs "list"&&zAV l&&cE a sc N bs l)
 | .max a b,sc,N,bs=>λe=>onC e λy z2=>on2 z2 λl r=>(decide (y = "max")&&bltB sc bs "max"&&zAV l&&zAV r&&cE a sc N bs l&&cE b sc N bs r)
 | .isi t a,sc,N,bs=>λe=>zB8 e λz1 z2 z3 _=>zAq z1 λy _=>on2 z2 λl z4=>zAq z4 λz _=>on0 z3<|(decide (y = "isinstance")&&decide (z=Str.ofString t.nm)&&bltB sc bs "isinstance"&&bltB sc bs (Str.ofString t.nm)&&zAV l&&cE a sc N bs l)
 | .chn op op' a b c,sc,N,bs=>λe=>zDq e λl z1 z2 _=>on2 z1 λo1 o2=>on2 z2 λm r=>cmB op o1&&cmB op' o2&&chB op&&chB op'&&cE a sc N bs l&&cE b sc N bs m&&cE c sc N bs r
 | .lrev a,sc,N,bs=>λe=>zB8 e λz1 z2 z3 _=>zAq z1 λy _=>on1 z2 λz4=>zB8 z4 λz5 z6 z7 _=>zAq z5 λz _=>on1 z6 λl=>on0 z7<|on0 z3<|(decide (y = "list")&&decide (z = "reversed")&&bltB sc bs "list"&&bltB sc bs "reversed"&&zAV l&&cE a sc N bs l)
 | .tupl a,sc,N,bs=>λe=>onC e λy z2=>on1 z2 λl=>(decide (y = "tuple")&&bltB sc bs "tuple"&&zAV l&&cE a sc N bs l)
 | .comp1 n ms x src c el,sc,N,bs=>λe=>zDD e λv z1 scope _=>on1 z1 λz2=>zOw z2 λz3 t ifs a=>zAq z3 λy _=>decide (x=y)&&decide (a=0)&&decide (n=N.length)&&cscB sc scope&&zMH scope N ms&&decide ((mask (noN N) ms N++[x]).Nodup)&&locB (relS sc scope) x&&ownB scope x&&cI src sc N bs t&&cC c (relS sc scope) (mask (noN N) ms N++[x]) bs ifs&&cE el (relS sc scope) (mask (noN N) ms N++[x]) bs v
 | .lzip a b,sc,N,bs=>λe=>zB8 e λz1 z2 z3 _=>zAq z1 λy _=>on1 z2 λz4=>zB8 z4 λz5 z6 z7 _=>zAq z5 λz _=>on2 z6 λl r=>on0 z7<|on0 z3<|(decide (y = "list")&&decide (z = "zip")&&bltB sc bs "list"&&bltB sc bs "zip"&&zAV l&&zAV r&&cE a sc N bs l&&cE b sc N bs r)
 | .it _,sc,N,bs=>λ_=>false
 | .r1 _,sc,N,bs=>λ_=>false
 | .r2 _ _,sc,N,bs=>λ_=>false
 | .r3 _ _ _,sc,N,bs=>λ_=>false
 | .nil,sc,N,bs=>λ_=>false
 | .cons _ _,sc,N,bs=>λ_=>false
noncomputable def cI:E->Scope->List Str->List Str->Expr->Bool
 | .it e,sc,N,bs=>λx=>zJw x&&cE e sc N bs x
 | .r1 a,sc,N,bs=>λx=>onC x λy z2=>on1 z2 λl=>(decide (y = "range")&&bltB sc bs "range"&&zAV l&&cE a sc N bs l)
 | .r2 a b,sc,N,bs=>λx=>onC x λy z2=>on2 z2 λl r=>(decide (y = "range")&&bltB sc bs "range"&&zAV l&&zAV r&&cE a sc N bs l&&cE b sc N bs r)
 | .r3 a b c,sc,N,bs=>λx=>onC x λy z2=>on3 z2 λl r q=>(decide (y = "range")&&bltB sc bs "range"&&zAV l&&zAV r&&zAV q&&cE a sc N bs l&&cE b sc N bs r&&cE c sc N bs q)
 | _,_,_,_=>λ_=>false
noncomputable def cC:E->Scope->List Str->List Str->List Expr->Bool
 | .nil,sc,N,bs=>λl=>l.isEmpty
 | .cons c _,sc,N,bs=>λl=>match l with
  | [x]=>cE c sc N bs x
  | _=>false
 | _,_,_,_=>λ_=>false
noncomputable def cEs:E->Scope->List Str->List Str->List Expr->Bool
 | .nil,sc,N,bs=>λl=>l.isEmpty
 | .cons e es,sc,N,bs=>λl=>match l with
  | x::xs=>zAV x&&cE e sc N bs x&&cEs es sc N bs xs
  | []=>false
 | _,_,_,_=>λ_=>false
noncomputable def cO:E->Scope->List Str->List Str->Option Expr->Bool
 | .cons e _,sc,N,bs=>λo=>match o with
  | some x=>cE e sc N bs x
  | none=>false
 | .nil,sc,N,bs=>λo=>o.isNone
 | _,_,_,_=>λ_=>false
end
noncomputable def zPP:E->Bool
 | .comp1 _ _ _ _ _ _=>true
 | _=>false
noncomputable def varB (sc:Scope)(N:List Str)(i:Nat)(x:Str):Bool:=decide (N[i]?=some x)&&locB sc x&&okN x
mutual
noncomputable def cS (sc:Scope)(N bs:List Str):S->Stmt->Bool
 | .set i e=>λs=>zBv s λz1 v _=>on1 z1 λz2=>zAq z2 λy _=>varB sc N i y&&zEd v&&cE e sc N bs v
 | .setC i e=>λs=>zBv s λz1 v _=>on1 z1 λz2=>zAq z2 λy _=>zPP e&&varB sc N i y&&cE e sc N bs v
 | .app i e=>λs=>zFQ s λz1 _=>zB8 z1 λz2 z3 z4 cpos=>zAr z2 λz5 m apos=>zAq z5 λy _=>on1 z3 λv=>on0 z4<|(decide (m = "append")&&varB sc N i y&&(apos.endLine==cpos.line)&&zAV v&&cE e sc N bs v)
 | .aug op i e=>λs=>zDs s λz1 op' v _=>zAq z1 λy _=>opB op op'&&varB sc N i y&&zEd v&&cE e sc N bs v
 | .ext i e=>λs=>zFQ s λz1 _=>zB8 z1 λz2 z3 z4 cpos=>zAr z2 λz5 m apos=>zAq z5 λy _=>on1 z3 λv=>on0 z4<|(decide (m = "extend")&&varB sc N i y&&(apos.endLine==cpos.line)&&zAV v&&cE e sc N bs v)
 | .ife c a b=>λs=>onIf s λt l r _=>cE c sc N bs t&&cSs sc N bs a l&&cSs sc N bs b r
 | .whl c b=>λs=>zJn s λt l z1 _=>on0 z1<|(cE c sc N bs t&&cSs sc N bs b l)
 | .for1 i it b=>λs=>zOx s λz1 t l z2 _=>zAq z1 λy _=>on0 z2<|(varB sc N i y&&cI it sc N bs t&&cSs sc N bs b l)
 | .ret e=>λs=>zDd s λz1 _=>zDo z1 λv=>cE e sc N bs v
 | .retOwn i=>λs=>zDd s λz1 _=>zDo z1 λz2=>zAq z2 λy _=>varB sc N i y
 | .never=>λ_=>true
 | .rse c m=>λs=>onRaise s λz1 z2 _=>zDo z1 λz3=>zB8 z3 λz4 z5 z6 _=>zAq z4 λy _=>on1 z5 λl=>on0 z6<|zEY z2<|(decide (c=y)&&glB sc c&&okN c&&zAV l&&cE m sc N bs l)
 | .nil=>λ_=>false
 | .cons _ _=>λ_=>false
 | .frz _ _=>λ_=>false
noncomputable def cSs (sc:Scope)(N bs:List Str):S->List Stmt->Bool
 | .nil=>λl=>l.isEmpty
 | .cons a b=>λl=>match l with
  | s::r=>cS sc N bs a s&&cSs sc N bs b r
  | []=>false
 | .frz _ r=>λl=>cSs sc N bs r l
 | _=>λ_=>false
end
end DL
end
section
namespace DL
open PySem Spec PyProof.Rows L2
structure GOk (P:Program)(w:World)(K:W.Frag)(mg:Str->Option Value)(base:Heap)(k:Nat)(J:Gm)(bs:List Str):Prop where
 fn:∀ x F,(x,F)∈J.fns->∃ f fd ps,FnOk P w K mg base CX0 k f fd ps (spD K F)/\mg x=some (.ref f)/\W.keepIn K (.ref f)=true/\zBA K fd ps []
 cs:∀ x d,(x,d)∈J.cs->∃ u v,mg x=some u/\RelV v u/\Den K (λ_=>none) d v
 bt:∀ x∈bs,mg x=none
 xf:True
 sb:True
 rs:True
 lm:∀ (j:Nat) L F,J.lm[j]?=some (L,F)->zE3 P w K mg base k L F
 ob:∀ p∈J.ob,ObOk K mg p
structure XOk (X:Cx)(k:Nat)(J:Gm)(bs:List Str):Prop where
 g:GOk X.prog X.w X.K X.mg X.base k J bs
 room:Room k X.A
 calm:X.calm=true
 nd:X.N.Nodup
 own:PassesOwn (model X.prog X.w) X.A X.env X.xe
theorem XOk.comp (o:XOk X k J bs)(nd:N.Nodup):XOk (zAR X N scope s H fp) k J bs:=⟨o.g,o.room,o.calm,nd,PassesOwn.never⟩
theorem zAB (h:zAV e=true):starEach (e::es) env=(false,eval e env)::starEach es env:=by
 cases e<;>first | rfl | cases h
theorem zEb (h:zDt e=true):zFl e:=by
 cases e<;>first | intro o i;rfl | cases h
theorem zCm (h:zEd e=true):swapsWith e t n env=pure false:=by
 cases e<;>first | rfl | cases h
theorem zEc (h:zJw e=true):∀ x,foldedSetIterable e env x=pure x:=by
 intro x;cases e<;>first | rfl | cases h
theorem zDl (h:visB sc x=true):Vis sc x:=by
 unfold visB at h;split at h
 .rename_i e;exact .inl e
 .rename_i e;exact .inr (.inl e)
 .rename_i e;exact .inr (.inr e)
 .cases h
theorem zDv (h:locB sc x=true):Loc sc x:=by
 unfold locB at h;split at h
 .rename_i e;exact .inl e
 .rename_i e;exact .inr e
 .cases h
theorem zMO (h:locB sc x=true):Vis sc x:=(zDv h).elim .inl λe=>.inr (.inl e)
theorem zEj (h:glB X.env.scope x=true):Gl X x:=by
 unfold glB at h;split at h
 .assumption
 .grind
theorem zB9 (h:okN x=true):(x==("__debug__":Str))=false/\(x==("__classdict__":Str))=false:=by
 unfold okN at h
 simp_all
theorem zAt (o:XOk X k J bs)(h:bltB X.env.scope bs x=true):Gl X x/\X.mg x=none:=by
 unfold bltB at h
 simp_all
 exact⟨zEj h.1,o.g.bt x (by simp_all)⟩
theorem zE9 (o:XOk X k J bs):X.A.units+64 < cLine:=o.room.units
theorem zA7 {X:Cx}:∀ {es:List Expr},(∀ e∈es,zAV e=true)->∀ pos,(backTo pos (starEach es X.env)).any (·.1)=false
 | [],_,_=>rfl
 | e::es,h,pos=>by
  rw[zAB (h e xq)];show (false||(backTo pos (starEach es X.env)).any (·.1))=false;rw[zA7 (λe z=>h e (qJ _ z)) pos]
  rfl
theorem zGR :∀ {es:List Expr},cEs a sc N bs es=true->∀ e∈es,zAV e=true:=by
 induction a with
 | nil =>
  intro es h;cases es with
  | nil=>intro e z;exact absurd z (by simp)
  | cons x xs=>exact nomatch show false=true from h
 | cons a b _ ih =>
  intro es h;cases es with
  | nil=>intro e z;exact absurd z (by simp)
  | cons x xs =>
   simp only[cEs,x9] at h;intro e z;rcases mem_cons.mp z with rfl | z
   .simp_all
   .exact ih h.2 e z
 | _=>intro es h;exact zzf h
end DL
namespace DL
open PySem Spec PyProof.Rows L2
section
variable {X:Cx}
theorem zCG (h:∀ G,f G=none):GE X e f:=λpins s B H Q I zz85=>by
 obtain⟨S,G,z,ds,e,c⟩:=zz85;rw[h G] at e;cases e
theorem zFA (h:∀ x y,o x y=none)(G:Dst):two f g o G=none:=by
 unfold two
 simp_all
def zQ5 (K:W.Frag):R2:=λx y H Q=>∃ l b xs zs,x=.ref l/\y=.ref b/\SqL K H l xs/\SqL K H b zs/\xs.length+zs.length<=sizeLine/\∀ p,H p=none->Q (.ref p) (upd H p (.lst (xs++zs)))
theorem zJm:OpR X (binaryOp .Add) (zQ5 X.K):=by
 intro pins s B H x y v u Q I rx ry h;obtain⟨l,b,xs,zs,rfl,rfl,hl,hb,hz,q⟩:=h;cases rx;cases ry;obtain⟨its,rv,⟨⟨cls,dd,data,sl⟩,n,e1,e2,e3,e4⟩,z1⟩:=I.list hl;obtain⟨its2,rv2,⟨⟨cls2,dd2,data2,sl2⟩,n2,e1',e2',e3',e4'⟩,z2⟩:=I.list hb;subst e2 e4 e2' e4';refine concat_meets ⟨_,e1,rfl⟩ ⟨_,e1',rfl⟩ noFill_list_add seq_list_add F.slot_list_add F.entry_list_add (F.args_list_add_2 _ _) (zF9 l _ n dd sl b _ n2 dd2 sl2 (by rw[xQ,xQ,<- rv.length,<- rv2.length];exact hz)) ⟨e1,e1',?_⟩;have ea:its.toArray++its2.toArray=(its++its2).toArray:=by simp
 rw[ea];exact⟨.ref _,_,I.lnew (rv.append rv2) (by simp_all),rfl,q _ I.fresh⟩
theorem zJh:OpD X.K (λx y H Q=>(rI0 (λi j=>.int (i+j)) x y H Q\/zQ5 X.K x y H Q)\/zQ4 X.K x y H Q) (binD .Add):=by
 intro S H x y z vx vy Q sok e rx ry c;unfold binD at e;dsimp only at e;split at e
 .cases e;exact .inl (.inl ⟨_,_,rx.int,ry.int,c _ H (Same.refl _) (.int _)⟩)
 .rename_i xs ys;by_cases hl:xs.length+ys.length<=10000
  .rw [if_pos hl] at e;cases e;obtain⟨a,vs,rfl,h1,h2⟩:=rx.lst;obtain⟨b,ws,rfl,h3,h4⟩:=ry.lst;exact .inl (.inr ⟨a,b,vs,ws,rfl,rfl,h1,h3,by rw[<- h2.length,<- h4.length];exact zCw hl,λp n=>c _ _ (zAQ n _) (.lstNew (Same.refl _) sok n (h2.append h4))⟩)
  .simp_all
 .rename_i x xs y ys;by_cases hl:(x::xs).length+(y::ys).length<=10000
  .rw [if_pos hl] at e;cases e;obtain⟨a,vs,rfl,h1,h2⟩:=rx.tup;obtain⟨b,ws,rfl,h3,h4⟩:=ry.tup;exact .inr ⟨a,b,vs,ws,rfl,rfl,h1,h3,(λz=>by rw[z] at h2;have:=h2.length;simp at this),by rw[<- h2.length,<- h4.length];exact zCw hl,λz=>absurd z (λz=>by rw[z] at h4;have:=h4.length;simp at this),λ_ p n=>c _ _ (zAQ n _) (.tupNew sok n (h2.append h4))⟩
  .rw [if_neg hl] at e;cases e
 .cases e
theorem zJg:OpD X.K (λx y H Q=>rI IntMulOk (λi j=>.int (i*j)) x y H Q\/rRep X.K x y H Q) (binD .Mult):=by
 intro S H x y z vx vy Q sok e rx ry c;unfold binD at e
 simp_all
 split at e
 .unfold mulD at e;split at e
  .rename_i h;cases e;exact .inl ⟨_,_,rx.int,ry.int,h,c _ H (Same.refl _) (.int _)⟩
  .cases e
 .rename_i xs j;by_cases hl:0<=j/\j<=10000/\xs.length*j.toNat<=10000
  .rw [if_pos hl] at e;cases e;obtain⟨a,vs,rfl,h1,h2⟩:=rx.lst;exact .inr ⟨a,vs,j,rfl,ry.int,h1,hl.1,hl.2.1,by rw[<- h2.length];exact hl.2.2,λp n=>c _ _ (zAQ n _) (.lstNew (Same.refl _) sok n (zLG h2 _))⟩
  .simp_all
 .cases e
theorem zSa (ha:GE X a f)(hb:GE X b g):GE X (.BinOp a op b pos) (two f g (binD op)):=by
  cases op with
  | Add=>exact zIi ((zNx.or zJm).or zJl) zJh ha hb
  | Sub=>exact zIi zNt (zHa λx y z e=>by
      unfold binD at e;dsimp only at e;split at e
      . cases e;exact⟨_,_,rfl,rfl,rfl⟩
      . cases e) ha hb
  | Mult=>exact zIi (zJj.or zNu) zJg ha hb
  | FloorDiv=>exact zIi zHc (zDB λx y z e=>by
      unfold binD at e;dsimp only at e;split at e
      . unfold zMt at e;split at e
        . rename_i h;cases e;exact⟨_,_,rfl,rfl,h,rfl⟩
        . cases e
      . cases e) ha hb
  | Mod=>exact zIi zJk (zDB λx y z e=>by
      unfold binD at e;dsimp only at e;split at e
      . split at e
        . cases e
        . rename_i h;cases e;exact⟨_,_,rfl,rfl,h,rfl⟩
      . cases e) ha hb
  | Pow=>exact zIi zNv (zDB λx y z e=>by
      unfold binD at e;dsimp only at e;split at e
      . split at e
        . rename_i h;cases e;exact⟨_,_,rfl,rfl,h,rfl⟩
        . cases e
      . cases e) ha hb
  | _=>exact zCG (zFA λ_ _=>rfl)
theorem zBb {k:Int->Int->Bool}(h:cmpD op=λx y=>match x,y with
    | .int i,.int j=>some (.bl (k i j),.cl)
    | _,_=>none):∀ x y z,cmpD op x y=some z->∃ i j,x=.int i/\y=.int j/\z=(.bl (k i j),.cl):=by
  intro x y z e;rw[h] at e;dsimp only at e;split at e
  . cases e;exact⟨_,_,rfl,rfl,rfl⟩
  . cases e
theorem zNJ (hu:X.A.units+64 < cLine):(∃ r,OpR X (compareOp op) r/\OpD X.K r (cmpD op)/\∀ b,behindInMarks op b=false)\/∀ x y,cmpD op x y=none:=by
 cases op with
 | Lt=>exact .inl ⟨_,zRP,zBB (zBb rfl),λb=>zC3 b⟩
 | LtE=>exact .inl ⟨_,zRQ,zBB (zBb rfl),λb=>zC3 b⟩
 | Gt=>exact .inl ⟨_,zRS,zBB (zBb rfl),λb=>zC3 b⟩
 | GtE=>exact .inl ⟨_,zRU,zBB (zBb rfl),λb=>zC3 b⟩
 | Eq=>exact .inl ⟨_,zRV hu,zNs,λb=>zC3 b⟩
 | NotEq=>exact .inl ⟨_,zRO hu,zNs,λb=>zC3 b⟩
 | Is=>exact .inl ⟨_,zRR,zOs,λb=>zC3 b⟩
 | IsNot=>exact .inl ⟨_,zOu,zMD,λb=>zC3 b⟩
 | _=>exact .inr λ_ _=>rfl
theorem zG5 (h:∀ G,f G=none):GT X e (asB f):=λpins s B H Q I zz86=>by
 obtain⟨S,G,z,ds,e,c⟩:=zz86;obtain⟨k,e⟩:=zB4 e;rw[h G] at e;cases e
theorem zPq (hu:X.A.units+64 < cLine)(ha:GE X a f)(hb:GE X b g):GE X (.Compare a [op] [b] pos) (two f g (cmpD op))/\GT X (.Compare a [op] [b] pos) (asB (two f g (cmpD op))):=by
 rcases zNJ hu with ⟨r,h1,h2,h3⟩ | h
 .exact ⟨zSZ h1 h2 (h3 b) ha hb,zSA h1 h2 (h3 b) ha hb⟩
 .exact ⟨zCG (zFA h),zG5 (zFA h)⟩
theorem zAn (h:GE X e f)(he:∀ whole,isTrue e X.env whole=(do let v<-whole;standAt e.pos;holding [v] (truthy v))):GE X e f/\GT X e (asB f):=⟨h,zR7 h he⟩
theorem nh {T:Type}{c:T->Bool}{p:T->Prop}(n:∀ x,c x=false:=by exact λ_=>rfl):∀ x,c x=true->p x:=by grind
structure Good (X:Cx)(J:Gm)(bs:List Str)(a:E):Prop where
 e:∀ e,cE a X.env.scope X.N bs e=true->GE X e (evE J a)/\GT X e (asB (evE J a)):=by exact nh
 es:∀ es,cEs a X.env.scope X.N bs es=true->(GA X es (evEs J a)/\GAL X es (evLs J a))/\(es≠[]->∀ pos,(GE X (.BoolOp .And es pos) (evAnd J a)/\GW X (.BoolOp .And es pos) (asB (evAnd J a)))/\GE X (.BoolOp .Or es pos) (evOr J a)/\GW X (.BoolOp .Or es pos) (asB (evOr J a))):=by exact nh
 o:∀ oe,cO a X.env.scope X.N bs oe=true->GO X oe (evO J a):=by exact nh
 i:∀ it,cI a X.env.scope X.N bs it=true->(∀ tg,GI X tg it (evI J a))/\∀ x,foldedSetIterable it X.env x=pure x:=by exact nh
 c:∀ ifs,cC a X.env.scope X.N bs ifs=true->GCs X ifs (evC J a):=by exact nh
structure zTM (X:Cx)(tg iter elt:Expr)(ifs:List Expr)(scope:Scope)(ms:List Nat)(xs:List Str)(f:Dst->Option (List D))(t:D->Dst->Option Dst)(c:Dst->Option Bool)(e:Dst->Option R):Prop where
 hi:GI X tg iter f
 hs:∀ x,foldedSetIterable iter X.env x=pure x
 cs:zCB X.env.scope scope
 hm:∀ (i:Nat) x,X.N[i]?=some x->ownB scope x=true->i∈ms
 hg:∀ s H fp,GG (zAR X (mask (noN X.N) ms X.N++xs) scope s H fp) tg t
 hc:∀ s H fp,GCs (zAR X (mask (noN X.N) ms X.N++xs) scope s H fp) ifs c
 he:∀ s H fp,GE (zAR X (mask (noN X.N) ms X.N++xs) scope s H fp) elt e
theorem zHJ (h:cscB sc scope=true):zCB sc scope:=by
 unfold cscB at h;simp only[x9,qj,beq_iff_eq,all_eq_true] at h;obtain⟨⟨h1,h2⟩,h3⟩:=h;refine⟨h1,h2,λx hx e=>?_⟩;have q:=h3 x hx
 simp_all
theorem zFV (h:zMH scope N ms=true):∀ (i:Nat) x,N[i]?=some x->ownB scope x=true->i∈ms:=λi x e o=>by
 unfold zMH at h;rw[all_eq_true] at h;have q:=h i (mem_range.mpr (zzg e).1)
 simp_all
theorem zKj (h:xs[k]?=some x):(mask (noN N) ms N++xs)[N.length+k]?=some x:=by
 rw[getElem?_append_right (by rw[zAy];omega),zAy]
 simp_all
end
end DL
end
section
namespace DL
open PySem Spec PyProof.Rows L2
section
variable {X:Cx}{k:Nat}{J:Gm}{bs:List Str}
theorem zUD (o:XOk X k J bs)(hg:Gl X f)(hd:(f==("__debug__":Str))=false)(ha:GA X es g)(hst:∀ e∈es,zAV e=true)(he:es=[]->∀ G,g G=some []):GE X (.Call (.Name f p) es [] pos) (fnD J n f g):=by
 cases q:J.fns[n]? with
 | none=>exact zCG λG=>by unfold fnD;rw[q]
 | some yF =>
  obtain⟨y,F⟩:=yF;by_cases e:y=f
  .subst e;have ef:fnD J n y g=zIp F g:=by
    funext G;unfold fnD
    simp_all
   rw[ef];obtain⟨a,fd,ps,h1,h2,h3,h4⟩:=o.g.fn y F (mem_of_getElem? q);cases es with
   | nil =>
    rw[(funext (he rfl))];exact zMn h1 o.room hg h2 h3 h4 hd
   | cons x xs=>exact zPr h1 o.room hg h2 h3 h4 ha hd (zAB (hst x xq)) (zA7 λe z=>hst e (qJ _ z))
  .exact zCG λG=>by
    unfold fnD
    simp_all
theorem zUC (o:XOk X k J bs)(hg:Gl X x)(hd:(x==("__debug__":Str))=false):GE X (.Name x pos) (zGF J n x):=by
 cases q:J.cs[n]? with
 | none=>exact zCG λG=>by unfold zGF;rw[q]
 | some yd =>
  obtain⟨y,d⟩:=yd;by_cases e:y=x
  .subst e;have ef:zGF J n y=λ_=>some (d,.cl):=by
    unfold zGF
    simp_all
   rw[ef];obtain⟨u,v,h1,h2,h3⟩:=o.g.cs y d (mem_of_getElem? q);exact zPp hg h1 h2 h3 hd
  .exact zCG λG=>by
    unfold zGF
    simp_all
theorem zQV (h:cEs a sc N bs []=true)(G:Dst):evEs J a G=some []:=by
 cases a<;>first | rfl | exact nof h
theorem zH8 (o:XOk X k J bs)(hs:Good X J bs src)(hc:∀ {X':Cx},XOk X' k J bs->Good X' J bs c)(he:∀ {X':Cx},XOk X' k J bs->Good X' J bs el)(h:cE (.comp1 n ms x src c el) X.env.scope X.N bs e=true) :
  ∃ tg iter elt ifs scope pos,e=.ListComp elt [⟨tg,iter,ifs,0⟩] scope pos/\zTM X tg iter elt ifs scope ms [x] (evI J src) (tg1 n) (evC J c) (evE J el):=by
 obtain⟨v,z1,scope,pos,rfl,hq1⟩:=zBu h;obtain⟨z2,rfl,hq2⟩:=zAm hq1;obtain⟨z3,t,ifs,a,rfl,hq3⟩:=zFR hq2;obtain⟨y,py,rfl,hq4⟩:=zAK hq3;replace h:=hq4;simp at h;obtain⟨⟨⟨⟨⟨⟨⟨⟨⟨⟨rfl,rfl⟩,rfl⟩,h4⟩,h5⟩,h6⟩,h7⟩,h8⟩,h9⟩,h10⟩,h11⟩:=h;have cx:∀ s H fp,XOk (zAR X (mask (noN X.N) ms X.N++[x]) scope s H fp) k J bs:=λs H fp=>o.comp h6
 refine⟨_,_,_,_,_,_,rfl,⟨(hs.i _ h9).1 _,(hs.i _ h9).2,zHJ h4,zFV h5,λs H fp=>?_,λs H fp=>(hc (cx s H fp)).c _ h10,λs H fp=>((he (cx s H fp)).e _ h11).1⟩⟩;exact zKX h6 (zKj (k:=0) rfl) (zDv h7) (.inl h8)
theorem zIW (h:zRZ e=true):attributeBase e f X.env (eval e X.env)=eval e X.env:=by
 cases e with
 | Name _ _=>rfl
 | _=>exact nof h
theorem zCv (o:XOk X k J bs)(a:E):Good X J bs a:=by
 have hu:=zE9 o
 induction a generalizing X with
 | var i =>
  refine { e:=λe h=>?_ };obtain⟨_,_,rfl,hq1⟩:=zAK h;replace h:=hq1;simp only[x9,qj] at h;obtain⟨⟨h2,h3⟩,h4⟩:=h;obtain⟨n1,n2⟩:=zB9 h4;exact zAn (zSO h2 (zDl h3) n1 n2) λ_=>rfl
 | glob n x =>
  refine { e:=λe h=>?_ };obtain⟨_,_,rfl,hq1⟩:=zAK h;replace h:=hq1;simp only[x9,qj] at h;obtain⟨⟨rfl,h2⟩,h4⟩:=h;exact zAn (zUC o (zEj h2) (zB9 h4).1) λ_=>rfl
 | int i =>
  refine { e:=λe h=>?_ };obtain⟨z1,_,_,rfl,hq1⟩:=zBJ h;obtain⟨_,rfl,hq2⟩:=zJs hq1;replace h:=hq2;simp only[qj] at h;subst h;exact zAn ge_int λ_=>rfl
 | bl b =>
  refine { e:=λe h=>?_ };obtain⟨z1,_,_,rfl,hq1⟩:=zBJ h;obtain⟨_,rfl,hq2⟩:=zIV hq1;replace h:=hq2;simp only[qj] at h;subst h;exact zAn zUE λ_=>rfl
 | non =>
  refine { e:=λe h=>?_ };obtain⟨z1,_,_,rfl,hq1⟩:=zBJ h;obtain⟨rfl,hq2⟩:=zDE hq1;replace h:=hq2;exact zAn zST λ_=>rfl
 | str x =>
  refine { e:=λe h=>?_ };obtain⟨z1,_,_,rfl,hq1⟩:=zBJ h;obtain⟨_,rfl,hq2⟩:=zJr hq1;replace h:=hq2;simp only[qj] at h;subst h;exact zAn zSR λ_=>rfl
 | bin op a b iha ihb =>
  refine { e:=λe h=>?_ };obtain⟨_,_,_,_,rfl,hq1⟩:=zEZ h;replace h:=hq1;simp only[x9,opB,qj] at h;obtain⟨⟨rfl,h1⟩,h2⟩:=h;exact zAn (zSa ((iha o hu).e _ h1).1 ((ihb o hu).e _ h2).1) λ_=>rfl
 | neg a iha =>
  refine { e:=λe h=>?_ };obtain⟨z1,_,_,rfl,hq1⟩:=zCE h;obtain⟨rfl,hq2⟩:=zDE hq1;replace h:=hq2;exact zAn (zSU ((iha o hu).e _ h).1) λ_=>rfl
 | not a iha =>
  refine { e:=λe h=>?_ };obtain⟨z1,_,_,rfl,hq1⟩:=zCE h;obtain⟨rfl,hq2⟩:=zDE hq1;replace h:=hq2;exact⟨zSS ((iha o hu).e _ h).1,zR8 ((iha o hu).e _ h).2⟩
 | cmp op a b iha ihb =>
  refine { e:=λe h=>?_ };obtain⟨_,z1,z2,_,rfl,hq1⟩:=zDO h;obtain⟨_,rfl,hq2⟩:=zAm hq1;obtain⟨_,rfl,hq3⟩:=zAm hq2;replace h:=hq3;simp only[x9,cmB,qj] at h;obtain⟨⟨rfl,h1⟩,h2⟩:=h;exact zPq hu ((iha o hu).e _ h1).1 ((ihb o hu).e _ h2).1
 | andl es ih =>
  refine { e:=λe h=>?_ };obtain⟨z1,l,pos,rfl,hq1⟩:=zDr h;obtain⟨rfl,hq2⟩:=zDE hq1;replace h:=hq2;cases l with
  | nil =>
   have z:∀ G,evAnd J es G=none:=λG=>by cases es<;>first | rfl | exact nof h
   exact⟨zCG z,zG5 z⟩
  | cons x xs =>
   have q:=(((ih o hu).es _ h).2 (by simp) pos).1;exact⟨q.1,q.2.pt⟩
 | orl es ih =>
  refine { e:=λe h=>?_ };obtain⟨z1,l,pos,rfl,hq1⟩:=zDr h;obtain⟨rfl,hq2⟩:=zDE hq1;replace h:=hq2;cases l with
  | nil =>
   have z:∀ G,evOr J es G=none:=λG=>by cases es<;>first | rfl | exact nof h
   exact⟨zCG z,zG5 z⟩
  | cons x xs =>
   have q:=(((ih o hu).es _ h).2 (by simp) pos).2;exact⟨q.1,q.2.pt⟩
 | ite c a b ihc iha ihb =>
  refine { e:=λe h=>?_ };obtain⟨_,_,_,_,rfl,hq1⟩:=zIU h;replace h:=hq1;simp only[x9] at h;obtain⟨⟨h0,h1⟩,h2⟩:=h;exact⟨zSW ((ihc o hu).e _ h0).2 ((iha o hu).e _ h1).1 ((ihb o hu).e _ h2).1,zR9 ((ihc o hu).e _ h0).2 ((iha o hu).e _ h1).2 ((ihb o hu).e _ h2).2⟩
 | tup es ih =>
  refine { e:=λe h=>?_ };obtain⟨_,_,_,rfl,hq1⟩:=zEW h;replace h:=hq1;exact zAn (zSP ((ih o hu).es _ h).1.1) λ_=>rfl
 | lst es ih =>
  refine { e:=λe h=>?_ };obtain⟨_,_,rfl,hq1⟩:=zF1 h;replace h:=hq1;exact zAn (zSV ((ih o hu).es _ h).1.1) λ_=>rfl
 | ix a b iha ihb =>
  refine { e:=λe h=>?_ };obtain⟨_,_,_,rfl,hq1⟩:=zAu h;replace h:=hq1;simp only[x9] at h;obtain⟨⟨h0,h1⟩,h2⟩:=h;exact zAn (zUB ((iha o hu).e _ h1).1 ((ihb o hu).e _ h2).1 (zEb h0)) λ_=>rfl
 | sl a lo hi iha ihl ihh =>
  refine { e:=λe h=>?_ };obtain⟨_,z1,_,rfl,hq1⟩:=zAu h;obtain⟨_,_,z2,_,rfl,hq2⟩:=zEX hq1;obtain⟨rfl,hq3⟩:=zC2 hq2;replace h:=hq3;simp only[x9] at h;obtain⟨⟨h0,h1⟩,h2⟩:=h;exact zAn (zT9 ((iha o hu).e _ h0).1 ((ihl o hu).o _ h1) ((ihh o hu).o _ h2)) λ_=>rfl
 | call n f es ih =>
  refine { e:=λe h=>?_ };obtain⟨_,_,_,_,rfl,hq1⟩:=zBO h;replace h:=hq1;simp only[x9,qj] at h;obtain⟨⟨⟨rfl,h2⟩,h3⟩,h4⟩:=h;exact zAn (zUD o (zEj h2) (zB9 h3).1 ((ih o hu).es _ h4).1.1 (zGR h4) λe G=>by subst e;exact zQV h4 G) λ_=>rfl
 | len a iha =>
  refine { e:=λe h=>?_ };obtain⟨_,_,_,_,rfl,hq1⟩:=zBO h;obtain⟨_,rfl,hq2⟩:=zAm hq1;replace h:=hq2;simp only[x9,qj] at h;obtain⟨⟨⟨rfl,h2⟩,h3⟩,h4⟩:=h;obtain⟨g1,g2⟩:=zAt o h2;exact zAn (zSb zGQ zOr g1 g2 PySem.boot_len ((iha o hu).e _ h4).1 (zAB h3) (by decide) (by decide)) λ_=>rfl
 | abs a iha =>
  refine { e:=λe h=>?_ };obtain⟨_,_,_,_,rfl,hq1⟩:=zBO h;obtain⟨_,rfl,hq2⟩:=zAm hq1;replace h:=hq2;simp only[x9,qj] at h;obtain⟨⟨⟨rfl,h2⟩,h3⟩,h4⟩:=h;obtain⟨g1,g2⟩:=zAt o h2;exact zAn (zSb zNM zOt g1 g2 boot_abs ((iha o hu).e _ h4).1 (zAB h3) (by decide) (by decide)) λ_=>rfl
 | list a iha =>
  refine { e:=λe h=>?_ };obtain⟨_,_,_,_,rfl,hq1⟩:=zBO h;obtain⟨_,rfl,hq2⟩:=zAm hq1;replace h:=hq2;simp only[x9,qj] at h;obtain⟨⟨⟨rfl,h2⟩,h3⟩,h4⟩:=h;obtain⟨g1,g2⟩:=zAt o h2;exact zAn (zSQ zDW zMC g1 g2 boot_list ((iha o hu).e _ h4).1 (zAB h3) (by decide) (by decide)) λ_=>rfl
 | max a b iha ihb =>
  refine { e:=λe h=>?_ };obtain⟨_,_,_,_,rfl,hq1⟩:=zBO h;obtain⟨_,_,rfl,hq2⟩:=zEa hq1;replace h:=hq2;simp only[x9,qj] at h;obtain⟨⟨⟨⟨⟨rfl,h2⟩,h3⟩,h4⟩,h5⟩,h6⟩:=h;obtain⟨g1,g2⟩:=zAt o h2;exact zAn (zUF (zLS o.calm) (λx y z e=>by
   unfold maxD at e;split at e
   .cases e;exact⟨_,_,rfl,rfl,rfl⟩
   .cases e) g1 g2 boot_max ((iha o hu).e _ h5).1 ((ihb o hu).e _ h6).1 (zAB h3) (zAB h4) (by decide) (by decide)) λ_=>rfl
 | isi t a iha =>
  refine { e:=λe h=>?_ };obtain⟨z1,z2,z3,_,rfl,hq1⟩:=zAv h;obtain⟨_,_,rfl,hq2⟩:=zAK hq1;obtain⟨_,z4,rfl,hq3⟩:=zEa hq2;obtain⟨_,_,rfl,hq4⟩:=zAK hq3;obtain⟨rfl,hq5⟩:=zBP hq4;replace h:=hq5;simp only[x9,qj] at h;obtain⟨⟨⟨⟨⟨rfl,rfl⟩,h2⟩,h3⟩,h4⟩,h5⟩:=h;obtain⟨g1,g2⟩:=zAt o h2;obtain⟨g3,g4⟩:=zAt o h3;exact zAn (zSX g1 g2 g3 g4 ((iha o hu).e _ h5).1 (zAB h4)) λ_=>rfl
 | chn op op' a b c iha ihb ihc =>
  refine { e:=λe h=>?_ };obtain⟨_,z1,z2,_,rfl,hq1⟩:=zDO h;obtain⟨_,_,rfl,hq2⟩:=zEa hq1;obtain⟨_,_,rfl,hq3⟩:=zEa hq2;replace h:=hq3;simp only[x9,cmB,qj] at h;obtain⟨⟨⟨⟨⟨⟨rfl,rfl⟩,h1⟩,h2⟩,h3⟩,h4⟩,h5⟩:=h;have k:∀ {op:CmpOp},chB op=true->∃ r,OpR X (compareOp op) r/\OpD X.K r (cmpD op):=λ{op} q=>by
   cases op with
   | Lt=>exact⟨_,zRP,zBB (zBb rfl)⟩
   | LtE=>exact⟨_,zRQ,zBB (zBb rfl)⟩
   | Gt=>exact⟨_,zRS,zBB (zBb rfl)⟩
   | GtE=>exact⟨_,zRU,zBB (zBb rfl)⟩
   | _=>exact absurd q (by decide)
  obtain⟨r,a1,a2⟩:=k h1;obtain⟨r',b1,b2⟩:=k h2;exact zMk a1 b1 a2 b2 h2 ((iha o hu).e _ h3).1 ((ihb o hu).e _ h4).1 ((ihc o hu).e _ h5).1
 | callw i es ih =>
  refine { e:=λe h=>?_ };obtain⟨_,_,_,_,rfl,hq1⟩:=zBO h;obtain⟨_,_,rfl,hq2⟩:=zDp hq1;replace h:=hq2;simp only[x9,qj] at h;obtain⟨⟨⟨h1,h2⟩,h3⟩,h4⟩:=h;obtain⟨d1,d2⟩:=zB9 h3;have st:=zGR h4;exact zAn (zMl o.g.fn o.room h1 (zDl h2) d1 d2 ((ih o hu).es _ h4).1.1 (zAB (st _ xq)) (zA7 λe z=>st e (qJ _ z)) o.own) λ_=>rfl
 | callv i a iha =>
  refine { e:=λe h=>?_ };obtain⟨_,_,_,_,rfl,hq1⟩:=zBO h;obtain⟨_,rfl,hq2⟩:=zAm hq1;replace h:=hq2;simp only[x9,qj] at h;obtain⟨⟨⟨⟨h1,h2⟩,h3⟩,h4⟩,h5⟩:=h;obtain⟨d1,d2⟩:=zB9 h3;exact zAn (zMm o.g.lm o.g.fn o.room h1 (zDl h2) d1 d2 ((iha o hu).e _ h5).1 (zAB h4) o.own) λ_=>rfl
 | fld a f iha =>
  refine { e:=λe h=>?_ };obtain⟨_,_,_,rfl,hq1⟩:=zAf h;replace h:=hq1;simp only[x9,qj] at h;obtain⟨⟨rfl,h2⟩,h3⟩:=h;exact zAn (zSY ((iha o hu).e _ h3).1 (zIW h2) λc m C q=>o.g.ob _ m C q) λ_=>rfl
 | lrev a iha =>
  refine { e:=λe h=>?_ };obtain⟨z1,z2,z3,_,rfl,hq1⟩:=zAv h;obtain⟨_,_,rfl,hq2⟩:=zAK hq1;obtain⟨z4,rfl,hq3⟩:=zAm hq2;obtain⟨z5,z6,z7,_,rfl,hq4⟩:=zAv hq3;obtain⟨_,_,rfl,hq5⟩:=zAK hq4;obtain⟨_,rfl,hq6⟩:=zAm hq5;obtain⟨rfl,hq7⟩:=zBP hq6;obtain⟨rfl,hq8⟩:=zBP hq7;replace h:=hq8;simp only[x9,qj] at h;obtain⟨⟨⟨⟨⟨rfl,rfl⟩,h2⟩,h3⟩,h4⟩,h5⟩:=h;obtain⟨g1,g2⟩:=zAt o h2;obtain⟨g3,g4⟩:=zAt o h3;exact zAn (zIk o.calm g1 g2 g3 g4 ((iha o hu).e _ h5).1 (zAB h4)) λ_=>rfl
 | tupl a iha =>
  refine { e:=λe h=>?_ };obtain⟨_,_,_,_,rfl,hq1⟩:=zBO h;obtain⟨_,rfl,hq2⟩:=zAm hq1;replace h:=hq2;simp only[x9,qj] at h;obtain⟨⟨⟨rfl,h2⟩,h3⟩,h4⟩:=h;obtain⟨g1,g2⟩:=zAt o h2;exact zAn (zSQ zFf zJf g1 g2 zNN ((iha o hu).e _ h4).1 (zAB h3) (by decide) (by decide)) λ_=>rfl
 | comp1 n ms x src c el ihs ihc ihe =>
  refine { e:=λe h=>?_ };obtain⟨tg,iter,elt,ifs,scope,pos,rfl,q⟩:=zH8 o (ihs o hu) (λo'=>ihc o' (zE9 o')) (λo'=>ihe o' (zE9 o')) h;exact zAn (zKZ o.calm q.hi q.hs q.cs q.hm q.hg q.hc q.he) λ_=>rfl
 | lzip a b iha ihb =>
  refine { e:=λe h=>?_ };obtain⟨z1,z2,z3,_,rfl,hq1⟩:=zAv h;obtain⟨_,_,rfl,hq2⟩:=zAK hq1;obtain⟨z4,rfl,hq3⟩:=zAm hq2;obtain⟨z5,z6,z7,_,rfl,hq4⟩:=zAv hq3;obtain⟨_,_,rfl,hq5⟩:=zAK hq4;obtain⟨_,_,rfl,hq6⟩:=zEa hq5;obtain⟨rfl,hq7⟩:=zBP hq6;obtain⟨rfl,hq8⟩:=zBP hq7;replace h:=hq8;simp only[x9,qj] at h;obtain⟨⟨⟨⟨⟨⟨⟨rfl,rfl⟩,h2⟩,h3⟩,h4⟩,h5⟩,h6⟩,h7⟩:=h;obtain⟨g1,g2⟩:=zAt o h2;obtain⟨g3,g4⟩:=zAt o h3;exact zAn (zIj o.calm g1 g2 g3 g4 ((iha o hu).e _ h6).1 ((ihb o hu).e _ h7).1 (zAB h4) (zAB h5)) λ_=>rfl
 | it a iha =>
  refine { i:=λit h=>?_ };replace h:(zJw it&&cE a X.env.scope X.N bs it)=true:=h;simp only[x9] at h;exact⟨λtg=>zSN ((iha o hu).e _ h.2).1,zEc h.1⟩
 | r1 a iha =>
  refine { i:=λit h=>?_ };obtain⟨_,_,_,_,rfl,hq1⟩:=zBO h;obtain⟨_,rfl,hq2⟩:=zAm hq1;replace h:=hq2;simp only[x9,qj] at h;obtain⟨⟨⟨rfl,h2⟩,h3⟩,h4⟩:=h;obtain⟨g1,g2⟩:=zAt o h2;exact⟨λtg=>zKW g1 g2 ((iha o hu).e _ h4).1 (zAB h3),λ_=>rfl⟩
 | r2 a b iha ihb =>
  refine { i:=λit h=>?_ };obtain⟨_,_,_,_,rfl,hq1⟩:=zBO h;obtain⟨_,_,rfl,hq2⟩:=zEa hq1;replace h:=hq2;simp only[x9,qj] at h;obtain⟨⟨⟨⟨⟨rfl,h2⟩,h3⟩,h4⟩,h5⟩,h6⟩:=h;obtain⟨g1,g2⟩:=zAt o h2;exact⟨λtg=>zKV g1 g2 ((iha o hu).e _ h5).1 ((ihb o hu).e _ h6).1 (zAB h3) (zAB h4),λ_=>rfl⟩
 | r3 a b c iha ihb ihc =>
  refine { i:=λit h=>?_ };obtain⟨_,_,_,_,rfl,hq1⟩:=zBO h;obtain⟨_,_,_,rfl,hq2⟩:=zRW hq1;replace h:=hq2;simp only[x9,qj] at h;obtain⟨⟨⟨⟨⟨⟨⟨rfl,h2⟩,h3⟩,h4⟩,h4'⟩,h5⟩,h6⟩,h7⟩:=h;obtain⟨g1,g2⟩:=zAt o h2;exact⟨λtg=>zKU g1 g2 ((iha o hu).e _ h5).1 ((ihb o hu).e _ h6).1 ((ihc o hu).e _ h7).1 (zAB h3) (zAB h4) (zAB h4'),λ_=>rfl⟩
 | nil =>
  refine⟨λe h=>(zzf h),λes h=>?_,λoe h=>?_,λit h=>(zzf h),λifs h=>?_⟩
  .cases es with
   | nil=>exact⟨⟨zSd,zPw⟩,λz=>absurd rfl z⟩
   | cons x xs=>exact nof h
  .cases oe with
   | none=>exact zPg
   | some x=>exact nof h
  .cases ifs with
   | nil=>exact zPt
   | cons x xs=>exact nof h
 | cons e es ihe ihs =>
  refine⟨λe h=>(zzf h),λl h=>?_,λoe h=>?_,λit h=>(zzf h),λifs h=>?_⟩
  .cases l with
   | nil=>exact nof h
   | cons x xs =>
    replace h:(zAV x&&cE e X.env.scope X.N bs x&&cEs es X.env.scope X.N bs xs)=true:=h;simp only[x9] at h;obtain⟨⟨h1,h2⟩,h3⟩:=h;obtain⟨q1,q2⟩:=(ihe o hu).e _ h2;refine⟨⟨zPx q1 ((ihs o hu).es _ h3).1.1 (zAB h1),zMp q1 ((ihs o hu).es _ h3).1.2 (zAB h1)⟩,λ_ pos=>?_⟩;cases xs with
    | nil =>
     have hn:es=.nil:=by cases es<;>first | rfl | exact(zzf h3)
     subst hn;exact⟨⟨zN8 q1,zIe q2⟩,zN8 q1,zKO q2⟩
    | cons y ys =>
     have hc:∃ a b,es=.cons a b:=by cases es<;>first | exact⟨_,_,rfl⟩ | exact(zzf h3)
     obtain⟨a,b,rfl⟩:=hc;obtain⟨⟨r1,r2⟩,r3,r4⟩:=((ihs o hu).es _ h3).2 (by simp) pos;exact⟨⟨zSc q1 r1,zR6 q2 r2⟩,zUA q1 r3,zT4 q2 r4⟩
  .cases oe with
   | none=>exact nof h
   | some x =>
    replace h:cE e X.env.scope X.N bs x=true:=h;exact zPf ((ihe o hu).e _ h).1
  .cases ifs with
   | nil=>exact nof h
   | cons x xs =>
    cases xs with
    | nil=>exact zPs ((ihe o hu).e _ h).2
    | cons _ _=>exact nof h
theorem zLW (h:zDt kk=true)(v:Value):assign (.Subscript o kk spos) env v=(do
   let ov<-holding [v] (eval o env)
   let iv<-holding [v,ov] (eval kk env)
   standAt spos
   holding [v,ov,iv] (setItem ov iv v)
   release [v,ov,iv] []):=by
 cases kk<;>first | rfl | cases h
theorem zI8 (h:zEd e=true):swapsWithSole [t] e n env=pure false:=zCm h
theorem zBe (h:varB sc N i x=true):N[i]?=some x/\Loc sc x/\Vis sc x/\(x==("__debug__":Str))=false/\(x==("__classdict__":Str))=false:=by
 unfold varB at h;simp at h;obtain⟨⟨h1,h2⟩,h3⟩:=h;exact⟨h1,zDv h2,zMO h2,zB9 h3⟩
theorem zQu (o:XOk X k J bs)(fnl:∀ x,X.fn x=true)(hxe:X.xe=λ_ _=>False)(hst:X.stack=X.env::X.outer)(hfr:X.env.frame=some X.env.locals)(a:S) :
  ((∀ st,cS X.env.scope X.N bs a st=true->GS X st (evS J a))/\∀ sts,cSs X.env.scope X.N bs a sts=true->GSs X sts (evSs J a)) /\
  (∀ st,cS X.env.scope X.N bs a st=true->GXs X st (xvS J a))/\∀ sts,cSs X.env.scope X.N bs a sts=true->GXss X sts (xvSs J a):=by
 induction a with
 | nil =>
  refine⟨⟨λst h=>(zzf h),λsts h=>?_⟩,λst h=>zAJ,λsts h=>zAJ⟩;cases sts with
  | nil=>exact zPZ
  | cons x xs=>exact nof h
 | cons a b iha ihb =>
  refine⟨⟨λst h=>(zzf h),λsts h=>?_⟩,λst h=>zAJ,λsts h=>zAJ⟩
  .cases sts with
   | nil=>exact nof h
   | cons x xs =>
    replace h:(cS X.env.scope X.N bs a x&&cSs X.env.scope X.N bs b xs)=true:=h;simp only[x9] at h;exact zMf (iha.1.1 _ h.1) (ihb.1.2 _ h.2)
 | frz i r ih =>
  refine⟨⟨λst h=>(zzf h),λsts h=>?_⟩,λst h=>zAJ,λsts h=>zAJ⟩
  .replace h:cSs X.env.scope X.N bs r sts=true:=h;exact zPY zSh (ih.1.2 _ h)
 | set i e =>
  refine⟨⟨λst h=>?_,λsts h=>(zzf h)⟩,λst h=>zAJ,λsts h=>zAJ⟩
  .obtain ⟨z1,_,_,rfl,hq1⟩:=zA9 h;obtain⟨z2,rfl,hq2⟩:=zAm hq1;obtain⟨_,_,rfl,hq3⟩:=zAK hq2;replace h:=hq3;simp only[x9,qj] at h;obtain⟨⟨h2,h3⟩,h4⟩:=h;obtain⟨v1,v2,_⟩:=zBe h2;exact zN7 o.nd v1 v2 ((zCv o e).e _ h4).1 (zCm h3) (.inl (fnl _))
 | setC i e =>
  refine⟨⟨λst h=>?_,λsts h=>(zzf h)⟩,λst h=>zAJ,λsts h=>zAJ⟩;obtain⟨z1,_,_,rfl,hq1⟩:=zA9 h;obtain⟨z2,rfl,hq2⟩:=zAm hq1;obtain⟨_,_,rfl,hq3⟩:=zAK hq2;replace h:=hq3;simp only[x9,qj] at h;obtain⟨⟨h0,h2⟩,h4⟩:=h;obtain⟨v1,v2,_⟩:=zBe h2;cases e with
  | comp1 n ms x src c el =>
   obtain⟨tg,iter,elt,ifs,scope,pos,rfl,q⟩:=zH8 o (zCv o src) (λo'=>zCv o' c) (λo'=>zCv o' el) h4;exact zPe o.calm q.hi q.hs q.cs q.hm q.hg q.hc q.he o.nd v1 v2 (.inl (fnl _))
  | _=>cases h0
 | app i e =>
  refine⟨⟨λst h=>?_,λsts h=>(zzf h)⟩,λst h=>zAJ,λsts h=>zAJ⟩;obtain⟨z1,_,rfl,hq1⟩:=zDC h;obtain⟨z2,z3,z4,_,rfl,hq2⟩:=zAv hq1;obtain⟨z5,_,_,rfl,hq3⟩:=zAf hq2;obtain⟨_,_,rfl,hq4⟩:=zAK hq3;obtain⟨_,rfl,hq5⟩:=zAm hq4;obtain⟨rfl,hq6⟩:=zBP hq5;replace h:=hq6;simp only[x9,qj] at h;obtain⟨⟨⟨⟨rfl,h2⟩,h3⟩,h4⟩,h5⟩:=h;obtain⟨v1,v2,v3,v4,v5⟩:=zBe h2;exact zSG v1 v3 v4 v5 ((zCv o e).e _ h5).1 (zAB h4) rfl h3
 | aug op i e =>
  refine⟨⟨λst h=>?_,λsts h=>(zzf h)⟩,λst h=>zAJ,λsts h=>zAJ⟩;obtain⟨z1,_,_,_,rfl,hq1⟩:=zEK h;obtain⟨_,_,rfl,hq2⟩:=zAK hq1;replace h:=hq2;simp only[x9,qj,opB] at h;obtain⟨⟨⟨rfl,h2⟩,h3⟩,h4⟩:=h;obtain⟨v1,v2,_⟩:=zBe h2;exact zSF o.nd v1 v2 ((zCv o e).e _ h4).1 (.inl (fnl _))
 | ext i e =>
  refine⟨⟨λst h=>?_,λsts h=>(zzf h)⟩,λst h=>zAJ,λsts h=>zAJ⟩;obtain⟨z1,_,rfl,hq1⟩:=zDC h;obtain⟨z2,z3,z4,_,rfl,hq2⟩:=zAv hq1;obtain⟨z5,_,_,rfl,hq3⟩:=zAf hq2;obtain⟨_,_,rfl,hq4⟩:=zAK hq3;obtain⟨_,rfl,hq5⟩:=zAm hq4;obtain⟨rfl,hq6⟩:=zBP hq5;replace h:=hq6;simp only[x9,qj] at h;obtain⟨⟨⟨⟨rfl,h2⟩,h3⟩,h4⟩,h5⟩:=h;obtain⟨v1,v2,v3,v4,v5⟩:=zBe h2;exact zSE v1 v3 v4 v5 ((zCv o e).e _ h5).1 (zAB h4) rfl h3
 | ife c a b iha ihb =>
  refine⟨⟨λst h=>?_,λsts h=>(zzf h)⟩,λst h=>zAJ,λsts h=>zAJ⟩
  .obtain ⟨_,_,_,_,rfl,hq1⟩:=zJp h;replace h:=hq1;simp only[x9] at h;obtain⟨⟨h1,h2⟩,h3⟩:=h;exact zT5 ((zCv o c).e _ h1).2 (iha.1.2 _ h2) (ihb.1.2 _ h3)
 | whl c b ihb =>
  refine⟨⟨λst h=>?_,λsts h=>(zzf h)⟩,λst h=>zAJ,λsts h=>zAJ⟩;obtain⟨_,_,z1,_,rfl,hq1⟩:=zIT h;obtain⟨rfl,hq2⟩:=zBP hq1;replace h:=hq2;simp only[x9] at h;exact zMh o.own ((zCv o c).e _ h.1).2 (ihb.1.2 _ h.2)
 | for1 i it b ihb =>
  refine⟨⟨λst h=>?_,λsts h=>(zzf h)⟩,λst h=>zAJ,λsts h=>zAJ⟩;obtain⟨z1,_,_,z2,_,rfl,hq1⟩:=zHe h;obtain⟨_,_,rfl,hq2⟩:=zAK hq1;obtain⟨rfl,hq3⟩:=zBP hq2;replace h:=hq3;simp only[x9,qj] at h;obtain⟨⟨h2,h3⟩,h4⟩:=h;obtain⟨v1,v2,_⟩:=zBe h2;obtain⟨s1,s2⟩:=(zCv o it).i _ h3;exact zSD o.own o.calm (s1 _) (zKX o.nd v1 v2 (.inl (fnl _))) (ihb.1.2 _ h4) s2
 | ret e =>
  refine⟨⟨λst h=>?_,λsts h=>(zzf h)⟩,λst h=>zAJ,λsts h=>zAJ⟩
  .obtain ⟨z1,_,rfl,hq1⟩:=zCl h;obtain⟨_,rfl,hq2⟩:=zCF hq1;replace h:=hq2;exact zSC ((zCv o e).e _ h).1
 | retOwn i =>
  refine⟨⟨λst h=>?_,λsts h=>(zzf h)⟩,λst h=>zAJ,λsts h=>zAJ⟩;obtain⟨z1,_,rfl,hq1⟩:=zCl h;obtain⟨z2,rfl,hq2⟩:=zCF hq1;obtain⟨_,_,rfl,hq3⟩:=zAK hq2;replace h:=hq3;obtain⟨v1,v2,v3,v4,v5⟩:=zBe h;exact zKS v1 v3 v4 v5
 | never=>exact⟨⟨λst _=>zHo,λsts h=>(zzf h)⟩,λst h=>zAJ,λsts h=>zAJ⟩
 | rse c m =>
  exact⟨⟨λst _=>zHo,λsts h=>(zzf h)⟩,λst h=>zAJ,λsts h=>zAJ⟩
end
theorem zOK {K:W.Frag}{st:Stmt}(F:Fun K x qual st f fd)(sc:zAX N ps (zAA st))
  (ck:cSs (zAA st) N bs b (zAE st)=true) (g:GOk P w K mg base k J bs):FnOk P w K mg base CX0 (k+1) f fd ps (spD K (dFun ps.length N.length (evSs J b))) :=
 zSg F sc λcdv A outer s H E hr =>
  (zQu ⟨g,hr,rfl,sc.nd,PassesOwn.never⟩ (λ_=>rfl) rfl rfl rfl b).1.2 _ ck
noncomputable def Gm.add (J:Gm)(x:Str)(F:List D->Option R):Gm:=⟨J.fns++[(x,F)],J.cs,J.xf,J.sub,J.rs,J.lm,J.ob⟩
theorem GOk.add {K:W.Frag}{st:Stmt}(g:GOk P w K mg base k J bs)(F:Fun K x x st f fd)(sc:zAX N ps (zAA st))
  (ck:cSs (zAA st) N bs b (zAE st)=true) (m:mg x=some (.ref f)) (bi:zBA K fd ps []):GOk P w K mg base (k+1) (J.add x (dFun ps.length N.length (evSs J b))) bs:=by
 refine⟨λy G h=>?_,g.cs,g.bt,trivial,trivial,trivial,λj L F e=>(g.lm j L F e).mono (Nat.le_succ k),g.ob⟩
 .rcases mem_append.mp h with h | h
  .obtain ⟨f',fd',ps',h1,h2⟩:=g.fn y G h;exact⟨f',fd',ps',h1.mono (Nat.le_succ k),h2⟩
  .have e:(y,G)=(x,dFun ps.length N.length (evSs J b)):=by simpa using h
   cases e;exact⟨f,fd,ps,zOK F sc ck g,m,F.kp,bi⟩
theorem GOk.addN {K:W.Frag}{st:Stmt}(g:GOk P w K mg base k J bs)(F:Fun K x x st f fd)(m:mg x=some (.ref f))(bi:zBA K fd ps []) :
  GOk P w K mg base k (J.add x (λ_=>none)) bs:=by
 refine⟨λy G h=>?_,g.cs,g.bt,trivial,trivial,trivial,g.lm,g.ob⟩
 .rcases mem_append.mp h with h | h
  .exact g.fn y G h
  .have e:(y,G)=(x,λ_=>none):=by simpa using h
   cases e;exact⟨f,fd,ps,⟨λvs H Q E q=>(by obtain⟨_,_,_,_,_,q,_⟩:=q;cases q),λA outer s H args us vs Q E hr he hb hv q=>by obtain⟨_,_,_,_,_,q,_⟩:=q;cases q⟩,m,F.kp,bi⟩
theorem GOk.addR {K:W.Frag}{st:Stmt}(g:GOk P w K mg base k J bs)(g':GOk P w K mg base j J' bs)(hk:k<=j)(F:Fun K x x st f fd)(sc:zAX N ps (zAA st))
  (ck:cSs (zAA st) N bs b (zAE st)=true) (m:mg x=some (.ref f)) (bi:zBA K fd ps []):GOk P w K mg base (j+1) (J.add x (dFun ps.length N.length (evSs J' b))) bs:=by
 refine⟨λy G h=>?_,g.cs,g.bt,trivial,trivial,trivial,λi L F e=>(g.lm i L F e).mono (by omega),g.ob⟩
 .rcases mem_append.mp h with h | h
  .obtain ⟨f',fd',ps',h1,h2⟩:=g.fn y G h;exact⟨f',fd',ps',h1.mono (by omega),h2⟩
  .have e:(y,G)=(x,dFun ps.length N.length (evSs J' b)):=by simpa using h
   cases e;exact⟨f,fd,ps,zOK F sc ck g',m,F.kp,bi⟩
noncomputable def Gm.addL (J:Gm)(L:LamI)(F:List D->Option R):Gm:=⟨J.fns,J.cs,J.xf,J.sub,J.rs,J.lm++[(L,F)],J.ob⟩
noncomputable def lamD (n:Nat)(G:Dst->Option R):List D->Option R:=λds=>if ds.length=n+1/\noFs ds=true then G (ds.map λd=>some (d,false)) else none
theorem GOk.addL {K:W.Frag}(g:GOk P w K mg base k J bs)(S:zFn x ys L)(ey:frN L=ys)(ck:cE be L.scope (x::ys) bs L.body=true) :
  GOk P w K mg base (k+1) (J.addL L (lamD ys.length (evE J be))) bs:=by
 refine⟨λy G h=>let ⟨f,fd,ps,h1,h2⟩:=g.fn y G h;⟨f,fd,ps,h1.mono (Nat.le_succ k),h2⟩,g.cs,g.bt,trivial,trivial,trivial,λj L' F e=>?_,g.ob⟩;have e':(J.lm++[_])[j]?=some (L',F):=e;by_cases q:j < J.lm.length
 .rw [getElem?_append_left q] at e';exact(g.lm j L' F e').mono (Nat.le_succ k)
 .rw [getElem?_append_right (by omega)] at e';have q2:j - J.lm.length=0:=by
   by_cases z:j - J.lm.length=0
   .exact z
   .simp_all
  rw[q2] at e';cases e';refine zPJ S ey λY e1 e2 e3 e4 e5 hr hc hN hs hx=>?_
  subst e1 e2 e3 e4 e5;rw[<- hN,<- hs] at ck;exact((zCv ⟨g,hr,hc,by rw[hN];exact S.nd,by rw[hx];exact PassesOwn.never⟩ be).e _ ck).1
theorem zNT (h:absV u=some v):RelV v u:=by
 unfold absV at h;split at h<;>first | cases h;rfl | cases h;exact⟨_,rfl⟩ | cases h
theorem zHS:∀ {us:List Value} {vs:List V},us.map absV=vs.map some->Vals vs us
 | [],[],_=>.nil
 | [],_::_,h=>by simp at h
 | _::_,[],h=>by simp at h
 | u::us,v::vs,h=>by
  simp only[map_cons,List.cons.injEq] at h;exact .cons (zNT h.1) (zHS h.2)
theorem zFX {K:W.Frag}{mg:Str->Option Value}{ns:List Int}(m:mg x=some (.ref a))(l:K.lookup a=some ⟨.type "tuple",od,.seq its n,sl⟩)
  (h:its.toList.map absV=(ns.map V.int).map some) (hl:ns.length<=1000:=by decide):∃ u v,mg x=some u/\RelV v u/\Den K (λ_=>none) (.tup (ns.map D.int)) v:=by
 refine⟨_,.ref a,m,rfl,?_⟩;refine⟨a,ns.map V.int,rfl,.inr ⟨_,its,n,l,rfl,rfl,?_,zHS h⟩,DenL.ints ns⟩;have e:=congrArg List.length h;rw[qy,qy,qy] at e;have e2:its.size=ns.length:=e;rw[e2];exact Nat.le_of_lt (zJE hl)
end DL
end
section
namespace DL
open PySem L2
theorem zHD :evE J (.var i)=varD i:=rfl
theorem zM7 :evE J (.glob n x)=zGF J n x:=rfl
theorem zQL :evE J (.neg a)=negD (evE J a):=rfl
theorem zQK :evE J (.not a)=notD (evE J a):=rfl
theorem zHE :evAnd J (.cons e (.cons a b))=andD (evE J e) (evAnd J (.cons a b)):=rfl
theorem zIm :evOr J (.cons e (.cons a b))=orD (evE J e) (evOr J (.cons a b)):=rfl
theorem zQN :evE J (.ite c a b)=iteD (evE J c) (evE J a) (evE J b):=rfl
theorem zK2 :evEs J (.cons e es)=zNH (evE J e) (evEs J es):=rfl
theorem zQJ :evE J (.tup es)=tupD (evEs J es):=rfl
theorem zQM :evE J (.lst es)=lstD (evEs J es):=rfl
theorem zM8 :evE J (.call n f es)=fnD J n f (evEs J es):=rfl
theorem zOE :evE J (.sl a lo hi)=slD (evE J a) (evO J lo) (evO J hi):=rfl
theorem zM2 :evO J (.cons e u1)=zJe (evE J e):=rfl
theorem zSu :evSs J (.cons a b)=seqD (evS J a) (evSs J b):=rfl
theorem zTO :evSs J (.frz i r)=seqD (frzD i) (evSs J r):=rfl
theorem zQA :evS J (.set i e)=setD i (evE J e):=rfl
theorem zM1 :evS J (.setC i e)=setD i (evE J e):=rfl
theorem zQE :evS J (.app i e)=appD i (evE J e):=rfl
theorem zQC :evS J (.ife c a b)=ifD (asB (evE J c)) (evSs J a) (evSs J b):=rfl
theorem zQB :evS J (.ret e)=retD (evE J e):=rfl
theorem zIl :evS J (.retOwn i)=zDn i:=rfl
theorem zSy :evI J (.it e)=zGB (evE J e):=rfl
theorem zSx :evI J (.r1 a)=zJN (evE J a):=rfl
theorem zSw :evI J (.r3 a b c)=zJM (evE J a) (evE J b) (evE J c):=rfl
theorem zK3 :evE J (.comp1 n ms u2 src c e)=zIo ms 1 (evI J src) (tg1 n) (evC J c) (evE J e):=rfl
theorem zQO :evE J (.chn op op' a b c)=chD (cmpD op) (cmpD op') (evE J a) (evE J b) (evE J c):=rfl
theorem zQD :evS J (.ext i e)=extD i (evE J e):=rfl
theorem zTP :evE J (.lrev a)=one (evE J a) revD:=rfl
theorem zDK :evC J .nil=λ_=>some true:=rfl
def EvP {T:Type}(o:Option T)(Q:T->Prop):Prop:=∃ r,o=some r/\Q r
section
variable {T M:Type}{J:Gm}{G:Dst}
theorem EvP.bind {o:Option T}{f:T->Option M}{Q:M->Prop}(h:EvP o λa=>EvP (f a) Q):EvP (o.bind f) Q:=by
 obtain⟨a,e,b,e2,q⟩:=h;exact⟨b,by rw[e];exact e2,q⟩
theorem EvP.eq {o:Option T}{r:T}(h:EvP o λx=>x=r):o=some r:=by
 obtain⟨x,e,rfl⟩:=h;omega
theorem EvP.imp {o:Option T}{Q Q':T->Prop}(h:EvP o Q)(i:∀ x,Q x->Q' x):EvP o Q':=by
 obtain⟨x,e,q⟩:=h;exact⟨x,e,i x q⟩
def CB (b:Bool)(A B:Prop):Prop:=if b=true then A else B
theorem zA6 [Decidable p](h1:p->A)(h2:¬ p->B):CB (decide p) A B:=by
 unfold CB;grind
theorem zFe (h1:b=true->A)(h2:b=false->B):CB b A B:=by
 unfold CB;grind
theorem cb_t (h:A):CB true A B:=h
theorem cb_f (h:B):CB false A B:=by assumption
theorem zDU [Decidable p](hp:p)(h:A):CB (decide p) A B:=zA6 (λ_=>h) λn=>absurd hp n
theorem zDV [Decidable p](hp:¬ p)(h:B):CB (decide p) A B:=zA6 (λn=>absurd n hp) λ_=>h
theorem zLR (h:CB b B A):CB (!b) A B:=by
 cases b with
 | true=>exact cb_f h
 | false=>exact cb_t (by assumption)
variable {Q:R->Prop}
theorem zAH (e:G[i]?=some (some (d,false)))(h:Q (d,.cl)):EvP (evE J (.var i) G) Q:=by
 rw[zHD];unfold varD;rw[e];exact⟨_,rfl,h⟩
theorem zHt (e:G[i]?=some (some (.lst d,o)))(h:Q (.lst d,if o then .dt else .cl)):EvP (evE J (.var i) G) Q:=by
 rw[zHD];unfold varD;rw[e];cases o<;>exact⟨_,rfl,h⟩
theorem zUI (e:G[i]?=some (some (.lst d,true)))(h:Q (.lst d,.dt)):EvP (evE J (.var i) G) Q:=by
 rw[zHD];unfold varD;rw[e];exact⟨_,rfl,h⟩
theorem zMu (e:G[i]?=some (some (.fn n x,false)))(el:J.fns[n]?=some (x,F))(h:EvP (evEs J es G) λds=>EvP (F ds) λr=>r.2≠.dt/\Q r):EvP (evE J (.callw i es) G) Q:=by
 obtain⟨y,ey,r,er,nr,q⟩:=h;refine⟨r,?_,q⟩;show zGP J.fns i _ G=_;unfold zGP;have e3:fnvF J.fns n x y=some r:=by unfold fnvF;rw[el];exact(if_pos rfl).trans er
 simp_all
theorem zMv (e:G[i]?=some (some (.lam j L dl,false)))(el:J.lm[j]?=some (L,F))(h:EvP (evE J a G) λx=>x.2≠.dt/\EvP (F (x.1::dl)) λr=>r.2≠.dt/\Q r):EvP (evE J (.callv i a) G) Q:=by
 obtain⟨x,ex,nx,r,er,nr,q⟩:=h;refine⟨r,?_,q⟩;show zEE J.lm J.fns i _ G=_;unfold zEE;have e3:lamF J.lm j L (x.1::dl)=some r:=by unfold lamF;rw[el];exact(if_pos rfl).trans er
 simp_all
theorem zCr (e:J.cs[n]?=some (x,d))(h:Q (d,.cl)):EvP (evE J (.glob n x) G) Q:=by
 rw[zM7];unfold zGF;rw[e];exact⟨_,if_pos rfl,h⟩
theorem zBp (h:Q (.int i,.cl)):EvP (evE J (.int i) G) Q:=⟨_,rfl,h⟩
theorem zUJ (h:Q (.bl b,.cl)):EvP (evE J (.bl b) G) Q:=⟨_,rfl,h⟩
theorem zSo (h:Q (.non,.cl)):EvP (evE J .non G) Q:=⟨_,rfl,h⟩
theorem zGH (h:EvP (f G) λx=>EvP (g G) λy=>EvP (o x.1 y.1) Q):EvP (two f g o G) Q:=EvP.bind (h.imp λ_ q=>EvP.bind q)
theorem zDT (h:EvP (evE J a G) λx=>EvP (evE J b G) λy=>EvP (binD op x.1 y.1) Q):EvP (evE J (.bin op a b) G) Q:=zGH h
theorem zDS (h:EvP (evE J a G) λx=>EvP (evE J b G) λy=>EvP (cmpD op x.1 y.1) Q):EvP (evE J (.cmp op a b) G) Q:=zGH h
theorem zBF (h:EvP (evE J a G) λx=>EvP (evE J b G) λy=>EvP (ixD x.1 y.1) Q):EvP (evE J (.ix a b) G) Q:=zGH h
theorem zSq (h:EvP (evE J a G) λx=>EvP (evE J b G) λy=>EvP (maxD x.1 y.1) Q):EvP (evE J (.max a b) G) Q:=zGH h
theorem zKs (h:EvP (evE J a G) λx=>EvP (evE J b G) λy=>EvP (zipD x.1 y.1) Q):EvP (evE J (.lzip a b) G) Q:=zGH h
theorem zTQ (l:xs.length=ys.length/\xs.length<=10000)(h:Q (.lst (zipT xs ys),.fr)):EvP (zipD (.lst xs) (.lst ys)) Q:=⟨_,if_pos l,h⟩
theorem zEo (h:EvP (f G) λx=>EvP (o x.1) Q):EvP (one f o G) Q:=EvP.bind h
theorem zBR (h:EvP (evE J a G) λx=>EvP (lenD x.1) Q):EvP (evE J (.len a) G) Q:=zEo h
theorem zSt (h:EvP (evE J a G) λx=>EvP (absD x.1) Q):EvP (evE J (.abs a) G) Q:=zEo h
theorem zFb (h:EvP (evE J a G) λx=>EvP (zIc x.1) Q):EvP (evE J (.list a) G) Q:=zEo h
theorem zKt (h:EvP (evE J a G) λx=>EvP (isiF t x.1) Q):EvP (evE J (.isi t a) G) Q:=zEo h
theorem zTx (h:Q (.bl true,.cl)):EvP (isiF .int (.int i)) Q:=⟨_,rfl,h⟩
theorem zTy (h:Q (.bl false,.cl)):EvP (isiF .bool (.int i)) Q:=⟨_,rfl,h⟩
theorem zTv (h:Q (.bl true,.cl)):EvP (isiF .tuple (.tup ds)) Q:=⟨_,rfl,h⟩
theorem zPN (h:Q (.bl true,.cl)):EvP (isiF .list (.lst ds)) Q:=⟨_,rfl,h⟩
theorem zSp (h:EvP (evE J a G) λx=>∃ i,x.1=.int i/\Q (.int (-i),.cl)):EvP (evE J (.neg a) G) Q:=by
 obtain⟨⟨d,k⟩,e,i,ei,q⟩:=h;cases ei;rw[zQL];unfold negD;rw[e];exact⟨_,rfl,q⟩
theorem zEx {f:Dst->Option R}{b:Bool}{k:Kd}(e:f G=some (.bl b,k)):asB f G=some b:=by unfold asB;rw[e]
theorem zHu (h:EvP (evE J a G) λx=>∃ b,x.1=.bl b/\Q (.bl (!b),.cl)):EvP (evE J (.not a) G) Q:=by
 obtain⟨⟨d,k⟩,e,b,eb,q⟩:=h;cases eb;rw[zQK];unfold notD;rw[zEx e];exact⟨_,rfl,q⟩
theorem zP7 (h:EvP (evAnd J es G) Q):EvP (evE J (.andl es) G) Q:=h
theorem zKp (h:EvP (evOr J es G) Q):EvP (evE J (.orl es) G) Q:=h
theorem zHC (h:EvP (evE J e G) Q):EvP (evAnd J (.cons e .nil) G) Q:=h
theorem zKr (h:EvP (evE J e G) Q):EvP (evOr J (.cons e .nil) G) Q:=h
theorem zP8 (h:EvP (evE J e G) λx=>∃ k,x.1=.bl k/\CB k (EvP (evAnd J (.cons a b) G) Q) (Q (.bl false,.cl))):EvP (evAnd J (.cons e (.cons a b)) G) Q:=by
 obtain⟨⟨d,kd⟩,e,k,ek,q⟩:=h;cases ek;rw[zHE];unfold andD;rw[zEx e];cases k with
 | true=>exact q
 | false=>exact⟨_,rfl,by unfold CB at q;exact q⟩
theorem zKq (h:EvP (evE J e G) λx=>∃ k,x.1=.bl k/\CB k (Q (.bl true,.cl)) (EvP (evOr J (.cons a b) G) Q)):EvP (evOr J (.cons e (.cons a b)) G) Q:=by
 obtain⟨⟨d,kd⟩,e,k,ek,q⟩:=h;cases ek;rw[zIm];unfold orD;rw[zEx e];cases k with
 | true=>exact⟨_,rfl,q⟩
 | false =>
  assumption
theorem zOD (h:EvP (evE J c G) λx=>∃ k,x.1=.bl k/\CB k (EvP (evE J a G) Q) (EvP (evE J b G) Q)):EvP (evE J (.ite c a b) G) Q:=by
 obtain⟨⟨d,kd⟩,e,k,ek,q⟩:=h;cases ek;rw[zQN];unfold iteD;rw[zEx e];cases k with
 | true=>exact q
 | false =>
  assumption
theorem zAj {Q:List D->Prop}(h:Q []):EvP (evEs J .nil G) Q:=⟨_,rfl,h⟩
theorem zAG {Q:List D->Prop}(h:EvP (evE J e G) λx=>x.2≠.dt/\EvP (evEs J es G) λxs=>Q (x.1::xs)):EvP (evEs J (.cons e es) G) Q:=by
 rw[zK2];obtain⟨x,e,nd,xs,e2,q⟩:=h;exact⟨_,by unfold zNH;rw[e];show (if x.2=.dt then none else _)=_;rw[if_neg nd,e2];rfl,q⟩
theorem zKo (h:EvP (evEs J es G) λxs=>xs.length<=10000/\Q (.tup xs,.cl)):EvP (evE J (.tup es) G) Q:=by
 rw[zQJ];obtain⟨xs,e,l,q⟩:=h;exact⟨_,by unfold tupD;rw[e];exact if_pos l,q⟩
theorem zSr (h:EvP (evEs J es G) λxs=>xs.length<=10000/\Q (.lst xs,.fr)):EvP (evE J (.lst es) G) Q:=by
 rw[zQM];obtain⟨xs,e,l,q⟩:=h;exact⟨_,by unfold lstD;rw[e];exact if_pos l,q⟩
theorem zAI (e:J.fns[n]?=some (f,F))(h:EvP (evEs J es G) λds=>EvP (F ds) λr=>r.2≠.dt/\Q r):EvP (evE J (.call n f es) G) Q:=by
 rw[zM8];unfold fnD;obtain⟨ds,e1,r,e2,nd,q⟩:=h;refine⟨r,?_,q⟩;unfold zIp
 simp_all
theorem zP5 (h:EvP (evE J a G) λx=>EvP (evO J lo G) λl=>EvP (evO J hi G) λu=>∃ ds,x.1=.lst ds/\Q (.lst (cutD ds l u),.fr)):EvP (evE J (.sl a lo hi) G) Q:=by
 rw[zOE];obtain⟨⟨d,k⟩,e,l,e1,u,e2,ds,ed,q⟩:=h;cases ed;exact⟨_,by unfold slD;rw[e];rw[e1];rw[e2];rfl,q⟩
theorem zSn (h:EvP (evE J a G) λx=>EvP (evO J lo G) λl=>EvP (evO J hi G) λu=>∃ ds,x.1=.tup ds/\¬ (HT.sIx ds.length 0 l=0/\HT.sIx ds.length ds.length u=ds.length)/\Q (.tup (cutD ds l u),.cl)):EvP (evE J (.sl a lo hi) G) Q:=by
 rw[zOE];obtain⟨⟨d,k⟩,e,l,e1,u,e2,ds,ed,nw,q⟩:=h;cases ed;exact⟨_,by unfold slD;rw[e];rw[e1];rw[e2];exact if_neg nw,q⟩
theorem zOG {Q:Option Int->Prop}(h:Q none):EvP (evO J .nil G) Q:=⟨_,rfl,h⟩
theorem zK6 {Q:Option Int->Prop}(h:EvP (evE J e G) λx=>∃ i,x.1=.int i/\Q (some i)):EvP (evO J (.cons e b) G) Q:=by
 rw[zM2];obtain⟨⟨d,k⟩,e,i,ei,q⟩:=h;cases ei;exact⟨_,by unfold zJe;rw[e],q⟩
theorem zQX (h:Q (.int (i+j),.cl)):EvP (binD .Add (.int i) (.int j)) Q:=⟨_,rfl,h⟩
theorem zNQ (l:xs.length+ys.length<=10000)(h:Q (.lst (xs++ys),.fr)):EvP (binD .Add (.lst xs) (.lst ys)) Q:=⟨_,if_pos l,h⟩
theorem zTE (h:Q (.int (i - j),.cl)):EvP (binD .Sub (.int i) (.int j)) Q:=⟨_,rfl,h⟩
theorem zBD (l:IntMulOk i j)(h:Q (.int (i*j),.cl)):EvP (binD .Mult (.int i) (.int j)) Q:=⟨_,by show mulD i j=_;exact if_pos l,h⟩
theorem zEH (l:zIu i j)(h:Q (.int (i.fdiv j),.cl)):EvP (binD .FloorDiv (.int i) (.int j)) Q:=⟨_,by show zMt i j=_;exact if_pos l,h⟩
theorem zEG (l:j≠0)(h:Q (.int (i.fmod j),.cl)):EvP (binD .Mod (.int i) (.int j)) Q:=⟨_,if_neg l,h⟩
theorem zTF (l:0<=j/\j<=1000000/\i.natAbs < 2^64)(h:Q (.int (i^j.toNat),.cl)):EvP (binD .Pow (.int i) (.int j)) Q:=⟨_,if_pos l,h⟩
theorem c_lt (h:Q (.bl (decide (i < j)),.cl)):EvP (cmpD .Lt (.int i) (.int j)) Q:=⟨_,rfl,h⟩
theorem c_le (h:Q (.bl (decide (i<=j)),.cl)):EvP (cmpD .LtE (.int i) (.int j)) Q:=⟨_,rfl,h⟩
theorem c_gt (h:Q (.bl (decide (j < i)),.cl)):EvP (cmpD .Gt (.int i) (.int j)) Q:=⟨_,rfl,h⟩
theorem c_ge (h:Q (.bl (decide (j<=i)),.cl)):EvP (cmpD .GtE (.int i) (.int j)) Q:=⟨_,rfl,h⟩
theorem zM9 (i j:Int):EqOk (.int i) (.int j):=⟨by rfl,by rw[toPy];rfl,by rw[toPy];exact zero_le _⟩
theorem zQP (i j:Int):eqb (.int i) (.int j)=decide (i=j):=rfl
theorem zUL (h:Q (.bl (decide (i=j)),.cl)):EvP (cmpD .Eq (.int i) (.int j)) Q:=⟨_,by show eqD id _ _=_;rfl,h⟩
theorem zQU (h:Q (.bl (!decide (i=j)),.cl)):EvP (cmpD .NotEq (.int i) (.int j)) Q:=⟨_,by show eqD _ _ _=_;unfold eqD;rw[if_pos (zM9 i j),zQP],h⟩
theorem c_eq (l:EqOk x y)(h:Q (.bl (eqb x y),.cl)):EvP (cmpD .Eq x y) Q:=⟨_,by show eqD id _ _=_;exact if_pos l,h⟩
theorem c_ne (l:EqOk x y)(h:Q (.bl (!eqb x y),.cl)):EvP (cmpD .NotEq x y) Q:=⟨_,by show eqD _ _ _=_;exact if_pos l,h⟩
theorem zCp (e:atI ds i=some d)(h:Q (d,.cl)):EvP (ixD (.tup ds) (.int i)) Q:=⟨_,by show (atI ds i).map _=_;rw[e];rfl,h⟩
theorem zA3 (e:atI ds i=some d)(h:Q (d,.cl)):EvP (ixD (.lst ds) (.int i)) Q:=⟨_,by show (atI ds i).map _=_;rw[e];rfl,h⟩
theorem zEL (h:Q (.int ds.length,.cl)):EvP (lenD (.lst ds)) Q:=⟨_,rfl,h⟩
theorem zRu (h:Q (.int ds.length,.cl)):EvP (lenD (.tup ds)) Q:=⟨_,rfl,h⟩
theorem zUN (h:Q (.int (i.natAbs:Int),.cl)):EvP (absD (.int i)) Q:=⟨_,rfl,by
 have e:(if i < 0 then -i else i)=(i.natAbs:Int):=by split<;>omega
 rw[e];exact h⟩
theorem zI6 (h:Q (.lst ds,.fr)):EvP (zIc (.lst ds)) Q:=⟨_,rfl,h⟩
theorem zTk (h:Q (.int (max i j),.cl)):EvP (maxD (.int i) (.int j)) Q:=⟨_,rfl,by
 have e:(if j>i then j else i)=max i j:=by split<;>omega
 rw[e];exact h⟩
end
section
variable {J:Gm}{G:Dst}{Q:Out->Prop}
def Kt (J:Gm)(rest:S)(Q:Out->Prop):Out->Prop
 | .nx G'=>EvP (evSs J rest G') Q
 | o=>Q o
theorem k_nx (h:EvP (evSs J rest G) Q):Kt J rest Q (.nx G):=h
theorem k_rt (h:Q (.rt r)):Kt J rest Q (.rt r):=h
theorem zBZ (h:Q (.nx G)):EvP (evSs J .nil G) Q:=⟨_,rfl,h⟩
theorem zKk (h:EvP (f G) λo=>match o with | .nx G'=>EvP (g G') Q | o=>Q o):EvP (seqD f g G) Q:=by
 obtain⟨o,e,q⟩:=h;unfold seqD;rw[e];cases o with
 | nx G'=>exact q
 | rt r=>exact⟨_,rfl,q⟩
 | bk G'=>exact⟨_,rfl,q⟩
 | ct G'=>exact⟨_,rfl,q⟩
theorem zAF (h:EvP (evS J a G) (Kt J b Q)):EvP (evSs J (.cons a b) G) Q:=by
 refine zKk (h.imp λo q=>?_)
 assumption
theorem zHs (e:G[i]?=some (some (d,true)))(h:EvP (evSs J r (G.set i (some (d,false)))) Q):EvP (evSs J (.frz i r) G) Q:=zKk ⟨_,by unfold frzD;rw[e],h⟩
theorem zKm (e:G[i]?=some (some (d,false)))(h:EvP (evSs J r G) Q):EvP (evSs J (.frz i r) G) Q:=zKk ⟨_,by unfold frzD;rw[e],h⟩
noncomputable def ownK:Kd->Option Bool
 | .cl=>some false
 | .fr=>some true
 | .dt=>none
theorem zD5 (h:EvP (evE J e G) λr=>∃ o,ownK r.2=some o/\Q (.nx (G.set i (some (r.1,o))))):EvP (evS J (.set i e) G) Q:=by
 rw[zQA];obtain⟨⟨d,k⟩,e,o,eo,q⟩:=h;unfold setD;rw[e];cases k with
 | cl=>cases eo;exact⟨_,rfl,q⟩
 | fr=>cases eo;exact⟨_,rfl,q⟩
 | dt=>cases eo
theorem zHF (h:EvP (evE J e G) λr=>∃ o,ownK r.2=some o/\Q (.nx (G.set i (some (r.1,o))))):EvP (evS J (.setC i e) G) Q:=by
 rw[zM1];obtain⟨⟨d,k⟩,e,o,eo,q⟩:=h;unfold setD;rw[e];cases k with
 | cl=>cases eo;exact⟨_,rfl,q⟩
 | fr=>cases eo;exact⟨_,rfl,q⟩
 | dt=>cases eo
theorem zHw (hx:G[i]?=some (some (.lst xs,true)))(hl:xs.length<=10000)(h:EvP (evE J e G) λr=>r.2≠.dt/\Q (.nx (G.set i (some (.lst (xs++[r.1]),true))))):EvP (evS J (.app i e) G) Q:=by
 rw[zQE];obtain⟨r,e,nd,q⟩:=h;unfold appD;rw[hx];exact⟨_,by dsimp only;rw[e];show (if r.2=.dt then none else _)=_;rw[if_neg nd,if_pos hl],q⟩
theorem zD6 (h:EvP (evE J c G) λx=>∃ k,x.1=.bl k/\CB k (EvP (evSs J a G) Q) (EvP (evSs J b G) Q)):EvP (evS J (.ife c a b) G) Q:=by
 rw[zQC];obtain⟨⟨d,kd⟩,e,k,ek,q⟩:=h;cases ek;unfold ifD;rw[zEx e];cases k with
 | true=>exact q
 | false =>
  assumption
theorem zBS (h:EvP (evE J e G) λr=>r.2≠.dt/\Q (.rt r)):EvP (evS J (.ret e) G) Q:=by
 rw[zQB];obtain⟨r,e,nd,q⟩:=h;exact⟨_,by unfold retD;rw[e];exact if_neg nd,q⟩
theorem zK4 (e:G[i]?=some (some (.lst d,true)))(h:Q (.rt (.lst d,.fr))):EvP (evS J (.retOwn i) G) Q:=by
 rw[zIl];exact⟨_,by unfold zDn;rw[e],h⟩
theorem zBs (h:EvP (c G) λk=>CB k (EvP (b G) λo=>match o with
      | .nx G'=>EvP (zBH c b G') Q
      | .ct G'=>EvP (zBH c b G') Q
      | .bk G'=>Q (.nx G')
      | .rt r=>Q (.rt r)) (Q (.nx G))):EvP (zBH c b G) Q:=by
  obtain⟨k,ek,q⟩:=h;cases k with
  | false =>
    unfold CB at q;rw[if_neg qY] at q;refine⟨_,zCC (n:=1) (o:=.nx G) ?_,q⟩;show (c G).bind _=_;rw[ek];rfl
  | true =>
    obtain⟨o,eo,q⟩:EvP (b G) _:=q;cases o with
    | nx G' =>
      obtain⟨z,ez,q⟩:=q;obtain⟨n,en⟩:=zC7 ez;refine⟨z,zCC (n:=n+1) ?_,q⟩;show (c G).bind _=_;rw[ek,qx,if_pos rfl,eo];exact en
    | ct G' =>
      obtain⟨z,ez,q⟩:=q;obtain⟨n,en⟩:=zC7 ez;refine⟨z,zCC (n:=n+1) ?_,q⟩;show (c G).bind _=_;rw[ek,qx,if_pos rfl,eo];exact en
    | bk G' =>
      refine⟨_,zCC (n:=1) (o:=.nx G') ?_,q⟩;show (c G).bind _=_;rw[ek,qx,if_pos rfl,eo];rfl
    | rt r =>
      refine⟨_,zCC (n:=1) (o:=.rt r) ?_,q⟩;show (c G).bind _=_;rw[ek,qx,if_pos rfl,eo];rfl
theorem zOF (h:EvP (zBH (asB (evE J c)) (evSs J b) G) Q):EvP (evS J (.whl c b) G) Q:=h
theorem as_b {Q:Bool->Prop}(h:EvP (evE J c G) λx=>∃ k,x.1=.bl k/\Q k):EvP (asB (evE J c) G) Q:=by
 obtain⟨⟨d,kd⟩,e,k,ek,q⟩:=h;cases ek;exact⟨k,zEx e,q⟩
theorem zCI (h:EvP (evI J it G) λxs=>EvP (forD (tg1 i) (evSs J b) xs G) Q):EvP (evS J (.for1 i it b) G) Q:=EvP.bind h
theorem zGa {Q:List D->Prop}(h:EvP (evE J e G) λx=>∃ ds,x.2≠.dt/\(x.1=.lst ds\/x=(.tup ds,.cl))/\Q ds):EvP (evI J (.it e) G) Q:=by
 obtain⟨⟨d,k⟩,e,ds,nd,ed,q⟩:=h;refine⟨ds,?_,q⟩;rw[zSy];unfold zGB;rw[e];rcases ed with ed | ed
 .cases ed;cases k with
  | cl=>rfl
  | fr=>rfl
  | dt=>exact absurd rfl nd
 .simp_all
theorem w_cl {P:List D->Prop}(h:P ds):∃ d,((D.lst ds,Kd.cl):R).2≠.dt/\(((D.lst ds,Kd.cl):R).1=.lst d\/((D.lst ds,Kd.cl):R)=(.tup d,.cl))/\P d:=by simp_all
theorem w_fr {P:List D->Prop}(h:P ds):∃ d,((D.lst ds,Kd.fr):R).2≠.dt/\(((D.lst ds,Kd.fr):R).1=.lst d\/((D.lst ds,Kd.fr):R)=(.tup d,.cl))/\P d:=by simp_all
theorem w_tu {P:List D->Prop}(h:P ds):∃ d,((D.tup ds,Kd.cl):R).2≠.dt/\(((D.tup ds,Kd.cl):R).1=.lst d\/((D.tup ds,Kd.cl):R)=(.tup d,.cl))/\P d:=by simp_all
theorem zIM {Q:List D->Prop}(h:EvP (evE J a G) λx=>∃ j,x.1=.int j/\(-(2^62)<=j/\j < 2^62)/\Q (rngL 0 j.toNat)):EvP (evI J (.r1 a) G) Q:=by
 obtain⟨⟨d,k⟩,e,j,ej,hj,q⟩:=h;cases ej;refine⟨_,?_,q⟩;rw[zSx];unfold zJN;rw[e];exact if_pos hj
theorem zQs {Q:List D->Prop}(h:EvP (evE J a G) λx=>EvP (evE J b G) λy=>EvP (evE J c G) λz=>∃ i j k,x.1=.int i/\y.1=.int j/\z.1=.int k/\ROk i j k/\Q (rngS i k (Builtin.Range.rangeSize i j k).toNat)):EvP (evI J (.r3 a b c) G) Q:=by
 obtain⟨⟨d,k⟩,e,⟨d2,k2⟩,e2,⟨d3,k3⟩,e3,i,j,l,ei,ej,el,hj,q⟩:=h;refine⟨_,?_,q⟩;rw[zSw];unfold zJM
 simp_all
theorem zCV {Q:R->Prop}(h:EvP (evI J src G) λzs=>zs.length<=10000/\EvP (zCa (tg1 n) (evC J c) (evE J el) zs (mask none ms G++[none])) λys=>Q (.lst ys,.fr)):EvP (evE J (.comp1 n ms x src c el) G) Q:=by
 obtain⟨zs,e,hl,ys,e2,q⟩:=h;refine⟨_,?_,q⟩;rw[zK3];unfold zIo
 simp_all
theorem zLM {Q:List D->Prop}(hn:base.length=n)(g:D->D):∀ (zs:List D) (o:Option (D×Bool)),(∀ z∈zs,EvP (evE J el (base++[some (z,false)])) λr=>r.2≠.dt/\r.1=g z)->Q (zs.map g)->EvP (zCa (tg1 n) (evC J .nil) (evE J el) zs (base++[o])) Q
 | [],o,_,h=>⟨_,rfl,h⟩
 | z::zs,o,hz,h=>by
  obtain⟨r,e,nd,er⟩:=hz z xq;obtain⟨ys,e2,q⟩:=zLM hn g zs (some (z,false)) (Q:=λys=>Q (g z::ys)) (λy hy=>hz y (qJ _ hy)) h;refine⟨_,?_,q⟩;have es:(base++[o]).set n (some (z,false))=base++[some (z,false)]:=by
   rw[set_append_right _ _ (by omega),hn,sub_self];rfl
  show (tg1 n z (base++[o])).bind _=_;unfold tg1;rw[es,qx,zDK,qx,if_pos rfl,e,qx,if_neg nd,er];show (zCa _ _ _ zs (base++[some (z,false)])).bind _=_;unfold tg1 at e2;rw[zDK] at e2;rw[e2]
  rfl
theorem zKe (h:Q (.nx G)):EvP (forD t b [] G) Q:=⟨_,rfl,h⟩
def Kf (t:D->Dst->Option Dst)(b:Dst->Option Out)(xs:List D)(Q:Out->Prop):Out->Prop
 | .nx G'=>EvP (forD t b xs G') Q
 | .ct G'=>EvP (forD t b xs G') Q
 | .bk G'=>Q (.nx G')
 | .rt r=>Q (.rt r)
theorem zFa (e:t x G=some O5)(h:EvP (b O5) (Kf t b xs Q)):EvP (forD t b (x::xs) G) Q:=by
 obtain⟨o,eo,q⟩:=h;cases o with
 | nx G' =>
  obtain⟨z,ez,q⟩:=q;exact⟨z,by show (t x G).bind _=_;rw[e];show (b O5).bind _=_;rw[eo];exact ez,q⟩
 | ct G' =>
  obtain⟨z,ez,q⟩:=q;exact⟨z,by show (t x G).bind _=_;rw[e];show (b O5).bind _=_;rw[eo];exact ez,q⟩
 | bk G'=>exact⟨_,by show (t x G).bind _=_;rw[e];show (b O5).bind _=_;rw[eo];rfl,q⟩
 | rt r=>exact⟨_,by show (t x G).bind _=_;rw[e];show (b O5).bind _=_;rw[eo];rfl,q⟩
theorem zTr (h:EvP (forD t b xs G) Q):Kf t b xs Q (.nx G):=h
theorem zCg (I:List D->Dst->Prop)(hs:∀ (x:D) (xs:List D) (G:Dst),I (x::xs) G->∃ O5,t x G=some O5/\EvP (b O5) λo=>match o with
   | .nx G'=>I xs G'
   | .ct G'=>I xs G'
   | .bk G'=>Q (.nx G')
   | .rt r=>Q (.rt r)) (hd:∀ G,I [] G->Q (.nx G)):∀ (xs:List D) (G:Dst),I xs G->EvP (forD t b xs G) Q
 | [],G,h=>zKe (hd G h)
 | x::xs,G,h=>by
  obtain⟨O5,e,q⟩:=hs x xs G h;refine zFa e (q.imp λo z=>?_);cases o with
  | nx G'=>exact zCg I hs hd xs G' z
  | ct G'=>exact zCg I hs hd xs G' z
  | bk G'=>exact z
  | rt r=>exact z
def Kd' (Q:R->Prop):Out->Prop
 | .rt r=>Q r
 | .nx _=>Q (.non,.cl)
 | _=>False
theorem zP4 {Q:R->Prop}(h1:ds.length=np)(h2:np<=nN)(h:EvP (evSs J b (ds.map (λd=>some (d,false))++List.replicate (nN - np) none)) (Kd' Q)):EvP (dFun np nN (evSs J b) ds) Q:=by
 unfold dFun;rw[if_pos ⟨h1,h2⟩];obtain⟨o,e,q⟩:=h;rw[e];cases o with
 | rt r=>exact⟨_,rfl,q⟩
 | nx _=>exact⟨_,rfl,q⟩
 | bk _=>exact q.elim
 | ct _=>exact q.elim
theorem zTs {Q:R->Prop}(h:Q r):Kd' Q (.rt r):=h
end
section
variable {J:Gm}{G:Dst}{Q:R->Prop}
theorem zSs (h:EvP (evE J a G) λx=>EvP (evE J b G) λy=>EvP (cmpD op x.1 y.1) λr=>∃ k,r.1=.bl k/\CB k (EvP (evE J c G) λz=>EvP (cmpD op' y.1 z.1) Q) (Q (.bl false,.cl))):EvP (evE J (.chn op op' a b c) G) Q:=by
 rw[zQO];obtain⟨x,ex,y,ey,⟨d,kd⟩,er,k,ek,q⟩:=h;cases ek;unfold chD;rw[ex,ey];show EvP (match cmpD op x.1 y.1 with | some (.bl true,_)=>(evE J c G).bind λz=>cmpD op' y.1 z.1 | some (.bl false,_)=>some _ | _=>none) Q;rw[er];cases k with
 | true=>exact EvP.bind q
 | false=>unfold CB at q;exact⟨_,rfl,q⟩
theorem zKn (h:EvP (evE J a G) λx=>EvP (zFq x.1) Q):EvP (evE J (.tupl a) G) Q:=zEo h
theorem zQi (h:Q (.tup ds,.cl)):EvP (zFq (.lst ds)) Q:=⟨_,rfl,h⟩
end
theorem zSz (ei:G[i]?=some (some (.lst xs,true)))(h:EvP (evE J e G) λr=>∃ ys,r=(.lst ys,.fr)/\xs.length+ys.length<=10000/\Q (.nx (G.set i (some (.lst (xs++ys),true))))):EvP (evS J (.ext i e) G) Q:=by
 rw[zQD];obtain⟨r,e1,ys,rfl,hl,q⟩:=h;refine⟨_,?_,q⟩;unfold extD;rw[ei,e1];exact if_pos hl
theorem zP6 (h:EvP (evE J a G) λx=>∃ xs,x.1=.lst xs/\xs.length<=10000/\Q (.lst xs.reverse,.fr)):EvP (evE J (.lrev a) G) Q:=by
 obtain⟨x,e,xs,e1,hl,q⟩:=h;refine zEo ⟨x,e,_,?_,q⟩;rw[e1];exact if_pos hl
end DL
end
section
namespace DM
noncomputable def msr (t b:Int):Int:=if b < 0 then -(Int.gcd t b:Int) else (Int.gcd t b:Int)
theorem zJ3 (hb:b≠0):msr t b≠0:=by
 unfold msr;have h:Int.gcd t b≠0:=λh=>hb (Int.gcd_eq_zero_iff.mp h).2
 omega
theorem zF5 (t b:Int):msr t b∣t:=by
 unfold msr;split
 .exact Int.neg_dvd.mpr (Int.gcd_dvd_left ..)
 .exact Int.gcd_dvd_left ..
theorem zJ4 (t b:Int):msr t b∣b:=by
 unfold msr;split
 .exact Int.neg_dvd.mpr (Int.gcd_dvd_right ..)
 .exact Int.gcd_dvd_right ..
theorem zCq {b:Int}(h:b∣a):a.fdiv b=a / b:=Int.fdiv_eq_ediv_of_dvd h
theorem zGv (hb:b≠0):t.fdiv (msr t b)=(Rat.divInt t b).num:=by
 rw[zCq (zF5 t b),Rat.num_divInt,Int.gcd_comm b t];unfold msr;by_cases h:b < 0
 .rw [if_pos h,Int.sign_eq_neg_one_of_neg h,Int.ediv_neg,Int.neg_one_mul];rw[Int.neg_ediv_of_dvd (Int.gcd_dvd_left ..)]
 .rw [if_neg h,Int.sign_eq_one_of_pos (by omega),Int.one_mul]
theorem zJ5 (hb:b≠0):b.fdiv (msr t b)=((Rat.divInt t b).den:Int):=by
 rw[zCq (zJ4 t b),Rat.den_divInt,Int.gcd_comm b t];unfold msr;by_cases h:b < 0
 .rw [if_pos h,Int.ediv_neg,<- Int.neg_ediv_of_dvd (Int.gcd_dvd_right ..)];grind
 .grind
theorem zS5 (t b:Int)(hb:b≠0):(Rat.divInt t b).den<=b.natAbs:=by
 rw[Rat.den_divInt,if_neg hb];exact Nat.div_le_self _ _
theorem zRX (t b:Int)(hb:b≠0):(Rat.divInt t b).num.natAbs<=t.natAbs:=by
 rw[<- zGv hb,zCq (zF5 t b)];exact Int.natAbs_ediv_le_natAbs _ _
theorem zHp (ha:0<=a)(hb:0 < b):Int.gcd b (a.fmod b)=Int.gcd a b:=by
 rw[Int.fmod_eq_emod_of_nonneg a (by omega)];have h1:(a%b).natAbs=a.natAbs%b.natAbs:=by
  grind
 show Nat.gcd b.natAbs (a%b).natAbs=Nat.gcd a.natAbs b.natAbs;rw[h1,Nat.gcd_comm b.natAbs,<- Nat.gcd_rec,Nat.gcd_comm]
noncomputable def nadd:List Rat->List Rat
 | a::b::r=>(a+b)::nadd r
 | l=>l
noncomputable def sumR:List Rat->Rat
 | []=>0
 | a::r=>a+sumR r
theorem zHh:∀ l:List Rat,sumR (nadd l)=sumR l
 | []=>rfl
 | [_]=>rfl
 | a::b::r=>by simp only[nadd,sumR,zHh r,Rat.add_assoc]
theorem zHi:∀ l:List Rat,(nadd l).length=(l.length+1) / 2
 | []=>by simp[nadd]
 | [_]=>by simp[nadd]
 | a::b::r=>by simp only[nadd,xJ,zHi r];omega
theorem zJ0:∀ l:List Rat,(List.range (l.length / 2)).map (λi=>l.getD (2*i) 0+l.getD (2*i+1) 0)++(if l.length%2=1 then [l.getD (l.length - 1) 0] else [])=nadd l
 | []=>by simp[nadd]
 | [a]=>by simp[nadd]
 | a::b::r=>by
  have e1:(a::b::r).length / 2=r.length / 2+1:=by simp only[xJ];omega
  have e2:(a::b::r).length%2=r.length%2:=by simp only[xJ];omega
  rw[e1,e2,List.range_succ_eq_map,map_cons,map_map,nadd,<- zJ0 r];have e3:((λi=>(a::b::r).getD (2*i) 0+(a::b::r).getD (2*i+1) 0)∘Nat.succ)=λi=>r.getD (2*i) 0+r.getD (2*i+1) 0:=by
   funext i;simp only[Function.comp];rw[show 2*(i.succ)=2*i+1+1 by omega];simp only[List.getD_cons_succ]
  rw[e3];have e4:r.length%2=1->(a::b::r).getD ((a::b::r).length - 1) 0=r.getD (r.length - 1) 0:=λh=>by
   rw[show (a::b::r).length - 1=(r.length - 1)+1+1 by simp only[xJ];omega];simp only[List.getD_cons_succ]
  by_cases h:r.length%2=1
  .rw [if_pos h,if_pos h,e4 h];rfl
  .rw [if_neg h,if_neg h];rfl
abbrev Pt:=Rat×Rat
noncomputable def rot {T:Type}(ps:List T):List T:=ps.drop 1++ps.take 1
noncomputable def zFv (ps:List Pt):List (Pt×Pt):=ps.zip (rot ps)
theorem zJL {T:Type}(ps:List T):(rot ps).length=ps.length:=by
 unfold rot;grind
theorem zJG (ps:List Pt):(zFv ps).length=ps.length:=by
 unfold zFv;rw[List.length_zip,zJL,Nat.min_self]
theorem zJF (h:s∈zFv ps):s.1∈ps/\s.2∈ps:=by
 obtain⟨h1,h2⟩:=of_mem_zip h;unfold rot at h2;grind
abbrev Ln:=Rat×Rat×Rat
noncomputable def hq (L:Ln)(p:Pt):Rat:=L.1*p.1+L.2.1*p.2 - L.2.2
def zS8 (u v:Rat):Prop:=(0 < u/\v < 0)\/(u < 0/\0 < v)
noncomputable instance (u v:Rat):Decidable (zS8 u v):=inferInstanceAs (Decidable (_\/_))
end DM
end
section
namespace DL
open PySem L2
def Bd (n:Nat)(i:Int):Prop:=i.natAbs < 2^n
theorem zFi (h:Bd n i):Builtin.Int.intBits i<=n:=by
 unfold Builtin.Int.intBits;split
 .simp
 .rename_i hz;have hp:i.natAbs≠0:=by
   grind
  exact(Nat.log2_lt hp).mpr h
theorem zTi (h1:Bd m i)(h2:Bd n j)(h3:m+n<=134217728):IntMulOk i j:=IntMulOk.of_le (zFi h1) (zFi h2) h3
theorem zF3 (h:j.natAbs < 2^64):IntMulOk i j:=IntMulOk.of_right (zFi h)
theorem zEe (h:i.natAbs < 2^64):IntMulOk i j:=IntMulOk.of_left (zFi h)
theorem Bd.mono (h:Bd m i)(l:m<=n):Bd n i:=xY h (Nat.pow_le_pow_right (by decide) l)
theorem zBc (h1:Bd m i)(h2:Bd n j):Bd (m+n) (i*j):=by
 unfold Bd at *;rw[Int.natAbs_mul,Nat.pow_add];exact Nat.mul_lt_mul'' h1 h2
theorem zHZ (m n:Nat):2^m+2^n<=2^(Nat.max m n+1):=by
 have h1:2^m<=2^Nat.max m n:=Nat.pow_le_pow_right (by simp) (Nat.le_max_left m n);have h2:2^n<=2^Nat.max m n:=Nat.pow_le_pow_right (by simp) (Nat.le_max_right m n);omega
theorem zTD (h1:Bd m i)(h2:Bd n j):Bd (Nat.max m n+1) (i+j):=by
 unfold Bd at *;have:=zHZ m n;have:=Int.natAbs_add_le i j;omega
theorem zTC (h1:Bd m i)(h2:Bd n j):Bd (Nat.max m n+1) (i - j):=by
 unfold Bd at *;have:=zHZ m n;have:=Int.natAbs_sub_le i j;omega
noncomputable def ratD (q:Rat):D:=.tup [.int q.num,.int (q.den:Int)]
structure RB (n:Nat)(q:Rat):Prop where
 num:Bd n q.num
 den:Bd n (q.den:Int)
theorem RB.mono (h:RB m q)(l:m<=n):RB n q:=⟨h.num.mono l,h.den.mono l⟩
theorem zET (hb:b≠0)(h1:Bd n t)(h2:Bd n b):RB n (Rat.divInt t b) :=
 ⟨Nat.lt_of_le_of_lt (DM.zRX t b hb) h1,Nat.lt_of_le_of_lt (by simpa using DM.zS5 t b hb) h2⟩
theorem zA5 (q:Rat):(q.den:Int)≠0:=by have:=q.den_nz;omega
theorem zLH (q:Rat):(0:Int) < (q.den:Int):=by have:=q.den_nz;omega
theorem zLa (p q:Rat):p+q=Rat.divInt (p.num*q.den+q.num*p.den) (p.den*q.den):=by
 have:=Rat.divInt_add_divInt p.num q.num (zA5 p) (zA5 q)
 simp_all
theorem zNc (p q:Rat):p - q=Rat.divInt (p.num*q.den - q.num*p.den) (p.den*q.den):=by
 have:=Rat.divInt_sub_divInt p.num q.num (zA5 p) (zA5 q)
 simp_all
theorem zN1 (p q:Rat):p*q=Rat.divInt (p.num*q.num) (p.den*q.den):=by
 have:=Rat.divInt_mul_divInt p.num q.num (d₁:=p.den) (d₂:=q.den)
 simp_all
theorem zOJ (p q:Rat):p / q=Rat.divInt (p.num*q.den) (p.den*q.num):=by
 have e:q⁻¹=Rat.divInt q.den q.num:=by
  conv=>lhs;rw[<- Rat.num_divInt_den q,Rat.inv_divInt]
 rw[Rat.div_def];have:=Rat.divInt_mul_divInt p.num (q.den:Int) (d₁:=p.den) (d₂:=q.num)
 simp_all
theorem zDP {a b:Int}(h1:a≠0)(h2:b≠0):a*b≠0:=Int.mul_ne_zero h1 h2
theorem zCD (h1:RB m p)(h2:RB n q):RB (m+n+1) (p+q):=by
 rw[zLa];refine zET (zDP (zA5 p) (zA5 q)) ?_ ((zBc h1.den h2.den).mono (by omega));refine(zTD (zBc h1.num h2.den) (zBc h2.num h1.den)).mono ?_;grind
theorem zDN (h1:RB m p)(h2:RB n q):RB (m+n+1) (p - q):=by
 rw[zNc];refine zET (zDP (zA5 p) (zA5 q)) ?_ ((zBc h1.den h2.den).mono (by omega));refine(zTC (zBc h1.num h2.den) (zBc h2.num h1.den)).mono ?_;grind
theorem zA0 (h1:RB m p)(h2:RB n q):RB (m+n) (p*q):=by
 rw[zN1];exact zET (zDP (zA5 p) (zA5 q)) (zBc h1.num h2.num) (zBc h1.den h2.den)
theorem zN0 {q:Rat}(h:q≠0):q.num≠0:=by simp_all
theorem zJS (hq:q≠0)(h1:RB m p)(h2:RB n q):RB (m+n) (p / q):=by
 rw[zOJ];exact zET (zDP (zA5 p) (zN0 hq)) (zBc h1.num h2.den) (zBc h1.den h2.num)
theorem zHX (h:Bd n i)(h1:1<=n):RB n (i:Rat):=by
 refine⟨?_,?_⟩
 .simp_all
 .show ((i:Rat).den:Int).natAbs < 2^n;exact Nat.one_lt_two_pow (by omega)
noncomputable def zO9:S:=.cons (.whl (.cmp .Gt (.var 1) (.int 0)) (.cons (.set 2 (.bin .Mod (.var 0) (.var 1))) (.cons (.set 0 (.var 1)) (.cons (.set 1 (.var 2)) .nil)))) (.cons (.ret (.var 0)) .nil)
theorem x_bl {P:Bool->Prop}(h:P b):∃ c,((D.bl b,k):R).1=.bl c/\P c:=⟨b,rfl,h⟩
theorem zTR {P:Int->Prop}(h:P i):∃ j,((D.int i,k):R).1=.int j/\P j:=⟨i,rfl,h⟩
theorem x_cl {P:Bool->Prop}(h:P false):∃ o,ownK ((d,Kd.cl):R).2=some o/\P o:=⟨false,rfl,h⟩
theorem x_fr {P:Bool->Prop}(h:P true):∃ o,ownK ((d,Kd.fr):R).2=some o/\P o:=⟨true,rfl,h⟩
theorem n_cl (h:P):((d,Kd.cl):R).2≠.dt/\P:=by grind
theorem n_fr (h:P):((d,Kd.fr):R).2≠.dt/\P:=by grind
theorem y_l {P:List D->Prop}(h:P ds):∃ d,((D.lst ds,k):R).1=.lst d/\P d:=⟨ds,rfl,h⟩
theorem zTz (h:Q (.int q.num,.cl)):EvP (ixD (ratD q) (.int 0)) Q:=zCp rfl h
theorem zT0 (h:Q (.int (q.den:Int),.cl)):EvP (ixD (ratD q) (.int 1)) Q:=zCp rfl h
theorem zTw (h:Q (.bl true,.cl)):EvP (isiF .tuple (ratD q)) Q:=⟨_,rfl,h⟩
theorem zTq (h:Q (.int 2,.cl)):EvP (lenD (ratD q)) Q:=zRu h
end DL
end
open PySem L2 DL
open PySem L2 DL
local macro_rules | `(tactic| walk_at "s")=>`(tactic| simp only [List.set_cons_zero,List.set_cons_succ])
local macro_rules | `(tactic| walk_at "ev")=>`(tactic| first
 | ((with_reducible show EvP (evE _ (E.var _) _) _);first | refine zAH rfl ?_ | refine zUI rfl ?_)
 | (with_reducible first | refine zBp ?_ | refine zUJ ?_ | refine zDT ?_ | refine zDS ?_ | refine zBF ?_ | refine zKo ?_ | refine zSr ?_ | refine zBR ?_ | refine zSt ?_ | refine zSp ?_ | refine zHu ?_ | refine zKt ?_ | refine zTx ?_ | refine zTy ?_ | refine is_bb ?_ | refine zTv ?_ | refine zPN ?_ | refine zTw ?_ | refine zP7 ?_ | refine zKp ?_ | refine zHC ?_ | refine zP8 ?_ | refine zKr ?_ | refine zKq ?_ | refine zOD ?_ | refine zAj ?_ | refine zAG ?_ | refine ls_nil ?_ | refine ls_cons ?_ | refine zFb ?_ | refine zSq ?_ | refine ev_min ?_ | refine zP5 ?_ | refine zOG ?_ | refine zK6 ?_ | refine zSo ?_ | refine ev_str ?_ | refine zQX ?_ | refine zTE ?_ | refine c_lt ?_ | refine c_le ?_ | refine c_gt ?_ | refine c_ge ?_ | refine zUL ?_ | refine zQU ?_ | refine c_eqB ?_ | refine c_neB ?_ | refine zTz ?_ | refine zT0 ?_ | refine zEL ?_ | refine zRu ?_ | refine zTq ?_ | refine zUN ?_ | refine zI6 ?_ | refine t_listT ?_ | refine zTk ?_ | refine m_min ?_ | refine zBZ ?_ | refine zAF ?_ | refine zD5 ?_ | refine zHF ?_ | refine zD6 ?_ | refine zBS ?_ | refine es_retN ?_ | refine es_drop ?_ | refine zOF ?_ | refine zCI ?_ | refine es_for2 ?_ | refine zGa ?_ | refine zIM ?_ | refine sr_r2 ?_ | refine zQs ?_ | refine zCV ?_ | refine zKs ?_ | refine w_cl ?_ | refine w_fr ?_ | refine w_tu ?_) | ((with_reducible refine k_nx ?_);try (walk_at "s")) | (with_reducible first | refine k_rt ?_ | refine k_bk ?_ | refine k_ct ?_ | refine zTs ?_ | refine kd_nx ?_ | refine y_cl ?_ | refine y_fr ?_ | refine y_l ?_ | refine y_t ?_ | refine zKe ?_) | ((with_reducible refine zTr ?_);try (walk_at "s")) | (with_reducible first | refine kf_ct ?_ | refine kf_bk ?_ | refine kf_rt ?_ | refine fl_b ?_ | refine fl_i ?_ | refine cb_t ?_ | refine cb_f ?_ | refine zLR ?_ | refine x_bl ?_ | refine zTR ?_ | refine x_cl ?_ | refine x_fr ?_ | refine n_cl ?_ | refine n_fr ?_)
 | ((with_reducible show EvP (forD (tg1 _) _ (_::_) _) _);refine zFa rfl ?_;try (walk_at "s")) | ((with_reducible show EvP (ixD (D.lst (_::_)) (D.int _)) _);refine zA3 rfl ?_)
 | ((with_reducible show List.length _<=10000/\_);refine⟨zzb rfl,?_⟩) | ((with_reducible show EvP (evE _ (E.call _ _ _) _) _);refine zAI rfl ?_) | ((with_reducible show EvP (evE _ (E.lend _ _ _) _) _);refine ev_lend rfl ?_) | ((with_reducible show EvP (evE _ (E.glob _ _) _) _);refine zCr rfl ?_)
 | ((with_reducible show EvP (ixD (D.tup _) (D.int _)) _);refine zCp rfl ?_) | ((with_reducible show EvP (evS _ (S.retOwn _) _) _);refine zK4 rfl ?_) | ((with_reducible show EvP (evSs _ (S.frz _ _) _) _);first | refine zKm rfl ?_ | (refine zHs rfl ?_;try (walk_at "s"))))
local macro_rules | `(tactic| walk_at "st")=>`(tactic| simp only [map_cons,map_nil,cons_append,nil_append,replicate_succ,List.replicate_zero,Nat.reduceSub,append_nil,List.replicate])
open PySem L2 DL
local macro_rules | `(tactic| walk_at "w")=>`(tactic| (repeat walk_at "ev"))
open PySem L2 DL
local macro_rules | `(tactic| walk_at "d")=>`(tactic| refine zP4 rfl (by decide) ?_)
section
namespace DL
open PySem L2
theorem zJ6 :∀ (n:Nat) (a b:Int) (r:Option (D×Bool)),b.toNat<=n->0<=a->0<=b->(∀ r',Q (.nx [some (.int (Int.gcd a b:Int),false),some (.int 0,false),r'])) ->
  EvP (zBH (asB (evE J (.cmp .Gt (.var 1) (.int 0)))) (evSs J (.cons (.set 2 (.bin .Mod (.var 0) (.var 1))) (.cons (.set 0 (.var 1)) (.cons (.set 1 (.var 2)) .nil)))) [some (.int a,false),some (.int b,false),r]) Q:=by
 intro n
 induction n with
 | zero =>
  intro a b r hn ha hb q;have e:b=0:=by omega
  subst e;refine zBs (as_b ?_);(walk_at "w");refine zDV (Int.lt_irrefl 0) ?_;have:(Int.gcd a 0:Int)=a:=by rw[Int.gcd_zero_right];omega
  rw[this] at q;exact q r
 | succ n ih =>
  intro a b r hn ha hb q;by_cases e:b=0
  .subst e;refine zBs (as_b ?_);(walk_at "w");refine zDV (Int.lt_irrefl 0) ?_;have:(Int.gcd a 0:Int)=a:=by rw[Int.gcd_zero_right];omega
   rw[this] at q;exact q r
  .refine zBs (as_b ?_);(walk_at "w");refine zDU (show 0 < b by omega) ?_;(walk_at "w");refine zEG e ?_;(walk_at "w");have h1:=Int.fmod_nonneg_of_pos a (show 0 < b by omega);have h2:=Int.fmod_lt_of_pos a (show 0 < b by omega);refine ih b (a.fmod b) (some (.int (a.fmod b),false)) (by omega) hb h1 λr'=>?_
   rw[DM.zHp ha (by omega)];exact q r'
theorem zO8 (ha:0<=a)(hb:0<=b)(h:Q (.int (Int.gcd a b:Int),.cl)):EvP (dFun 2 3 (evSs J zO9) [.int a,.int b]) Q:=by
 (walk_at "d");unfold zO9
 walk_at "ev"
 refine zJ6 b.toNat a b none (le_refl _) ha hb λr'=>?_
 (walk_at "w");omega
noncomputable def zIv:S:=.cons (.ret (.andl (.cons (.isi .int (.var 0)) (.cons (.not (.isi .bool (.var 0))) .nil)))) .nil
theorem zLq (h:Q (.bl true,.cl)):EvP (dFun 1 1 (evSs J zIv) [.int i]) Q:=by
 refine zP4 rfl (by simp) ?_;unfold zIv
 repeat walk_at "ev"
 exact h
def zLb (F:List D->Option R):Prop:=∀ (i:Int) (Q:R->Prop),Q (.bl true,.cl)->EvP (F [.int i]) Q
def zQc (F:List D->Option R):Prop:=∀ (a b:Int) (Q:R->Prop),0<=a->0<=b->Q (.int (Int.gcd a b:Int),.cl)->EvP (F [.int a,.int b]) Q
noncomputable def zOX (nm:Nat)(f:Str):S:=.cons (.set 2 (.call nm f (.cons (.abs (.var 0)) (.cons (.abs (.var 1)) .nil)))) (.cons (.ife (.cmp .Lt (.var 1) (.int 0)) (.cons (.set 2 (.neg (.var 2))) .nil) .nil) (.cons (.ret (.tup (.cons (.bin .FloorDiv (.var 0) (.var 2)) (.cons (.bin .FloorDiv (.var 1) (.var 2)) .nil)))) .nil))
theorem zPu (t b:Int):((Int.gcd (t.natAbs:Int) (b.natAbs:Int):Nat):Int)=(Int.gcd t b:Int):=rfl
theorem zO7 (hb:b≠0)(sb:Bd 60000000 b)(i:Int):zIu i (DM.msr t b):=DM.zJ3 hb
theorem zOW (em:J.fns[nm]?=some (f,Fm))(hm:zQc Fm)(hb:b≠0)(sb:Bd 60000000 b)
  (h:Q (.rt (ratD (Rat.divInt t b),.cl))):EvP (evSs J (zOX nm f) [some (.int t,false),some (.int b,false),x]) Q:=by
 unfold zOX;refine zAF (zD5 (zAI em ?_));(walk_at "w");refine hm _ _ _ (Int.natCast_nonneg _) (Int.natCast_nonneg _) ?_;rw[zPu];(walk_at "w");have fin:∀ g:Int,g=DM.msr t b->Q (.rt (.tup [.int (t.fdiv g),.int (b.fdiv g)],.cl)):=λg e=>by
  subst e;rw[DM.zGv hb,DM.zJ5 hb];exact h
 have dv:∀ g i:Int,g=DM.msr t b->zIu i g:=λg i e=>by subst e;exact zO7 hb sb i
 refine zA6 (λc=>?_) λc=>?_
 .have e:(-(Int.gcd t b:Int))=DM.msr t b:=by unfold DM.msr;rw[if_pos c]
  (walk_at "w");refine zEH (dv _ _ e) ?_;(walk_at "w");refine zEH (dv _ _ e) ?_;(walk_at "w");exact fin _ e
 .have e:(Int.gcd t b:Int)=DM.msr t b:=by unfold DM.msr;rw[if_neg c]
  (walk_at "w");refine zEH (dv _ _ e) ?_;(walk_at "w");refine zEH (dv _ _ e) ?_;(walk_at "w");exact fin _ e
def zEz (F:List D->Option R):Prop:=∀ (t b:Int) (Q:R->Prop),b≠0->Bd 60000000 b->Q (ratD (Rat.divInt t b),.cl)->EvP (F [.int t,.int b]) Q
noncomputable def zNh (nm:Nat)(x:S):S:=.cons (.ife (.cmp .Eq (.var 1) (.int 0)) (.cons x .nil) .nil) (zOX nm "common_measure")
theorem zL4 (em:J.fns[nm]?=some (("common_measure":Str),Fm))(hm:zQc Fm):zEz (dFun 2 3 (evSs J (zNh nm x))):=λt b Q hb sb h=>by
 (walk_at "d");unfold zNh;(walk_at "w");refine zDV hb ?_;(walk_at "w");exact zOW em hm hb sb h
noncomputable def cel (ns:List Int)(k:Int):Int :=
 if k < (ns.length:Int) then ns.getD k.toNat 0 else
  let seed:=if (0:Int) < (ns.length:Int) then k*7919+(ns.getD (k.fmod (ns.length:Int)).toNat 0).fmod 65537 else k*7919
  let some:=(seed*48271).fmod 65537
  ((some*(some+2*k+1)).fdiv 7).fmod 65521
noncomputable def zQS:S:=.cons (.ife (.cmp .Lt (.var 1) (.len (.var 0))) (.cons (.ret (.ix (.var 0) (.var 1))) .nil) .nil) (.cons (.set 2 (.bin .Mult (.var 1) (.int 7919))) (.cons (.ife (.cmp .Gt (.len (.var 0)) (.int 0)) (.cons (.set 2 (.bin .Add (.var 2) (.bin .Mod (.ix (.var 0) (.bin .Mod (.var 1) (.len (.var 0)))) (.int 65537)))) .nil) .nil) (.cons (.set 3 (.bin .Mod (.bin .Mult (.var 2) (.int 48271)) (.int 65537))) (.cons (.ret (.bin .Mod (.bin .FloorDiv (.bin .Mult (.var 3) (.bin .Add (.bin .Add (.var 3) (.bin .Mult (.int 2) (.var 1))) (.int 1))) (.int 7)) (.int 65521))) .nil))))
noncomputable def scr (ns:List Int):D:=.lst (ns.map D.int)
theorem zNe {ns:List Int}(h0:0<=k)(h1:k < (ns.length:Int)):atI (ns.map D.int) k=some (.int (ns.getD k.toNat 0)):=by
 have ek:k=((k.toNat:Nat):Int):=by omega
 have q:atI (ns.map D.int) _=some (.int (ns.getD k.toNat 0)):=zBT (by
  rw[getElem?_map,getD_eq_getElem?_getD,getElem?_eq_getElem (by omega)]
  rfl)
 grind
def zTN (F:List D->Option R):Prop:=∀ (ns:List Int) (k:Int) (Q:R->Prop),0<=k->Q (.int (cel ns k),.cl)->EvP (F [scr ns,.int k]) Q
theorem zFt (x:Int)(h0:0 < m)(h1:m < 2^64):(x.fmod m).natAbs < 2^64:=by
 have a:=Int.fmod_nonneg_of_pos x h0;have b:=Int.fmod_lt_of_pos x h0;omega
theorem zHI (h:j≠0)(h2:j.natAbs < 2^64):zIu i j:=h
theorem zQR :zTN (dFun 2 4 (evSs J zQS)):=λns k Q h0 h=>by
 (walk_at "d");unfold zQS;have el:((ns.map D.int).length:Int)=(ns.length:Int):=by rw[qy]
 refine zAF (zD6 (zDS (zAH rfl (zBR (zAH rfl ?_)))));show EvP (lenD (.lst (ns.map D.int))) _;(walk_at "w");rw[el];refine zA6 (λc=>?_) λc=>?_
 .refine zAF (zBS (zBF (zAH rfl (zAH rfl ?_))));show EvP (ixD (.lst (ns.map D.int)) (.int k)) _;refine zA3 (zNe h0 c) ?_;have e:cel ns k=ns.getD k.toNat 0:=by unfold cel;rw[if_pos c]
  rw[e] at h;(walk_at "w");exact h
 .unfold cel at h;rw[if_neg c] at h;(walk_at "w");refine zBD (zF3 (by decide)) ?_;(walk_at "w");refine(show EvP (lenD (.lst (ns.map D.int))) _ from ?_);(walk_at "w");rw[el];refine zA6 (λc2=>?_) λc2=>?_
  .rw [if_pos c2] at h;(walk_at "w");refine(show EvP (lenD (.lst (ns.map D.int))) _ from ?_);(walk_at "w");rw[el];refine zEG (by omega) ?_;refine(show EvP (ixD (.lst (ns.map D.int)) (.int (k.fmod (ns.length:Int)))) _ from ?_);refine zA3 (zNe (Int.fmod_nonneg_of_pos k c2) (Int.fmod_lt_of_pos k c2)) ?_;(walk_at "w");refine zEG (by decide) ?_;(walk_at "w");refine zBD (zF3 (by decide)) ?_;(walk_at "w");refine zEG (by decide) ?_;(walk_at "w");refine zBD (zEe (by decide)) ?_;(walk_at "w");refine zBD (zEe (zFt _ (by decide) (by decide))) ?_;(walk_at "w");refine zEH (zHI (by decide) (by decide)) ?_;(walk_at "w");refine zEG (by decide) ?_;(walk_at "w");exact h
  .rw [if_neg c2] at h;(walk_at "w");refine zBD (zF3 (by decide)) ?_;(walk_at "w");refine zEG (by decide) ?_;(walk_at "w");refine zBD (zEe (by decide)) ?_;(walk_at "w");refine zBD (zEe (zFt _ (by decide) (by decide))) ?_;(walk_at "w");refine zEH (zHI (by decide) (by decide)) ?_;(walk_at "w");refine zEG (by decide) ?_;(walk_at "w");exact h
theorem zDQ (h:i.natAbs<=k)(h2:k < 2^n):Bd n i:=Nat.lt_of_le_of_lt h h2
mutual
theorem zHx:∀ d:D,PyData.eqv (toPy d) (toPy d)=true
 | .non=>by simp[toPy,PyData.eqv]
 | .bl b=>by simp[toPy,PyData.eqv]
 | .int i=>by simp[toPy,PyData.eqv]
 | .str x=>by simp[toPy,PyData.eqv]
 | .tup ds=>by
  rw[toPy,PyData.eqv];exact eqbL_self ds
 | .lst ds=>by
  rw[toPy,PyData.eqv];exact eqbL_self ds
 | .exc _=>by simp[toPy,PyData.eqv]
 | .dct _=>by simp[toPy,PyData.eqv]
 | .lam _ _ _=>by simp[toPy,PyData.eqv]
 | .obj _ _ _=>by simp[toPy,PyData.eqv]
 | .fn _ _=>by simp[toPy,PyData.eqv]
theorem eqbL_self:∀ ds:List D,PyData.eqvAll (toPyL ds) (toPyL ds)=true
 | []=>by simp[toPyL,PyData.eqvAll]
 | d::ds=>by
  rw[toPyL,PyData.eqvAll,zHx d,eqbL_self ds]
  rfl
end
theorem zHy (d:D):eqb d d=true:=zHx d
def DOk (k:Nat)(d:D):Prop:=(toPy d).canLay0=true/\(toPy d).depth<=k
theorem zLE (i:Int):DOk k (.int i):=⟨by simp[toPy,PyData.canLay0],by simp[toPy,PyData.depth]⟩
theorem zLF :∀ {ds:List D},(∀ d∈ds,DOk k d)->PyData.canLayAll0 (toPyL ds)=true/\PyData.depthAll (toPyL ds)<=k
 | [],_=>⟨by simp[toPyL,PyData.canLayAll0],by simp[toPyL,PyData.depthAll]⟩
 | d::ds,h=>by
  have h1:=h d xq;have h2:=zLF (ds:=ds) λx z=>h x (qJ _ z)
  refine⟨by simp[toPyL,PyData.canLayAll0,h1.1,h2.1],?_⟩;simp only[toPyL,PyData.depthAll];exact Nat.max_le.mpr ⟨h1.2,h2.2⟩
theorem zHH (h:∀ d∈ds,DOk k d):DOk (k+1) (.tup ds):=by
 obtain⟨h1,h2⟩:=zLF h;exact⟨by simp[toPy,PyData.canLay0,h1],by simp only[toPy,PyData.depth];omega⟩
theorem zD8 (q:Rat):DOk 1 (ratD q):=zHH λd h=>by
 rcases mem_cons.mp h with rfl | h
 .exact zLE _
 .rcases mem_cons.mp h with rfl | h
  .exact zLE _
  .simp_all
theorem zFc (hx:DOk m x)(hy:DOk n y)(hm:m<=64):EqOk x y:=⟨hx.1,hy.1,le_trans hx.2 hm⟩
noncomputable def zIR (nm:Str)(nr:Nat):S:=.cons (.ret (.call nr nm (.cons (.bin .Add (.bin .Mult (.ix (.var 0) (.int 0)) (.ix (.var 1) (.int 1))) (.bin .Mult (.ix (.var 1) (.int 0)) (.ix (.var 0) (.int 1)))) (.cons (.bin .Mult (.ix (.var 0) (.int 1)) (.ix (.var 1) (.int 1))) .nil)))) .nil
noncomputable def zJ8 (nm:Str)(nr:Nat):S:=.cons (.ret (.call nr nm (.cons (.bin .Sub (.bin .Mult (.ix (.var 0) (.int 0)) (.ix (.var 1) (.int 1))) (.bin .Mult (.ix (.var 1) (.int 0)) (.ix (.var 0) (.int 1)))) (.cons (.bin .Mult (.ix (.var 0) (.int 1)) (.ix (.var 1) (.int 1))) .nil)))) .nil
noncomputable def zI3 (nm:Str)(nr:Nat):S:=.cons (.ret (.call nr nm (.cons (.bin .Mult (.ix (.var 0) (.int 0)) (.ix (.var 1) (.int 0))) (.cons (.bin .Mult (.ix (.var 0) (.int 1)) (.ix (.var 1) (.int 1))) .nil)))) .nil
noncomputable def zGq (nm:Str)(nr:Nat):S:=.cons (.ret (.call nr nm (.cons (.bin .Mult (.ix (.var 0) (.int 0)) (.ix (.var 1) (.int 1))) (.cons (.bin .Mult (.ix (.var 0) (.int 1)) (.ix (.var 1) (.int 0))) .nil)))) .nil
def OpF (f:Rat->Rat->Rat)(F:List D->Option R):Prop:=∀ (p q:Rat) (m n:Nat) (Q:R->Prop),RB m p->RB n q->m+n<=60000000->Q (ratD (f p q),.cl)->EvP (F [ratD p,ratD q]) Q
abbrev zEM:=OpF (·+·)
abbrev zE2:=OpF (· - ·)
abbrev zDX:=OpF (·*·)
def zFm (F:List D->Option R):Prop:=∀ (p q:Rat) (m n:Nat) (Q:R->Prop),q≠0->RB m p->RB n q->m+n<=60000000->Q (ratD (p / q),.cl)->EvP (F [ratD p,ratD q]) Q
theorem zBQ (h1:Bd m i)(h2:Bd n j)(h3:m+n<=60000000):IntMulOk i j:=zTi h1 h2 (le_trans h3 (by simp))
section
variable {J:Gm}{nm:Str}{nr:Nat}{Fr:List D->Option R}
theorem zOl (er:J.fns[nr]?=some (nm,Fr))(hr:zEz Fr):zEM (dFun 2 2 (evSs J (zIR nm nr))):=λp q m n Q hp hq l h=>by
 (walk_at "d");unfold zIR;refine zAF (zBS (zAI er ?_));(walk_at "w");refine zBD (zBQ hp.num hq.den l) ?_;(walk_at "w");refine zBD (zBQ hq.num hp.den (by omega)) ?_;(walk_at "w");refine zBD (zBQ hp.den hq.den l) ?_;(walk_at "w");refine hr _ _ _ (zDP (zA5 p) (zA5 q)) ((zBc hp.den hq.den).mono l) ?_;rw[<- zLa];(walk_at "w");exact h
theorem zMG (er:J.fns[nr]?=some (nm,Fr))(hr:zEz Fr):zE2 (dFun 2 2 (evSs J (zJ8 nm nr))):=λp q m n Q hp hq l h=>by
 (walk_at "d");unfold zJ8;refine zAF (zBS (zAI er ?_));(walk_at "w");refine zBD (zBQ hp.num hq.den l) ?_;(walk_at "w");refine zBD (zBQ hq.num hp.den (by omega)) ?_;(walk_at "w");refine zBD (zBQ hp.den hq.den l) ?_;(walk_at "w");refine hr _ _ _ (zDP (zA5 p) (zA5 q)) ((zBc hp.den hq.den).mono l) ?_;rw[<- zNc];(walk_at "w");exact h
theorem zLv (er:J.fns[nr]?=some (nm,Fr))(hr:zEz Fr):zDX (dFun 2 2 (evSs J (zI3 nm nr))):=λp q m n Q hp hq l h=>by
 (walk_at "d");unfold zI3;refine zAF (zBS (zAI er ?_));(walk_at "w");refine zBD (zBQ hp.num hq.num l) ?_;(walk_at "w");refine zBD (zBQ hp.den hq.den l) ?_;(walk_at "w");refine hr _ _ _ (zDP (zA5 p) (zA5 q)) ((zBc hp.den hq.den).mono l) ?_;rw[<- zN1];(walk_at "w");exact h
theorem zJc (er:J.fns[nr]?=some (nm,Fr))(hr:zEz Fr):zFm (dFun 2 2 (evSs J (zGq nm nr))):=λp q m n Q hz hp hq l h=>by
 (walk_at "d");unfold zGq;refine zAF (zBS (zAI er ?_));(walk_at "w");refine zBD (zBQ hp.num hq.den l) ?_;(walk_at "w");refine zBD (zBQ hp.den hq.num l) ?_;(walk_at "w");refine hr _ _ _ (zDP (zA5 p) (zN0 hz)) ((zBc hp.den hq.num).mono l) ?_;rw[<- zOJ];(walk_at "w");exact h
end
theorem zLo:D.tup [.int 0,.int 1]=ratD 0:=rfl
theorem zOv:D.tup [.int 1,.int 1]=ratD 1:=rfl
theorem zMb:D.tup [.int 1,.int 2]=ratD (1 / 2):=by
 unfold ratD;rw[show (1 / 2:Rat).num=1 from by decide +kernel,show (1 / 2:Rat).den=2 from by decide +kernel]
 rfl
inductive WB:List Rat->Nat->Prop
 | nil:WB [] 0
 | cons {q:Rat} {m W:Nat} {qs:List Rat}:RB m q->WB qs W->WB (q::qs) (m+1+W)
theorem zNX:∀ {qs:List Rat} {W:Nat},WB qs W->RB (W+1) (DM.sumR qs)
 | [],_,.nil=>⟨by unfold Bd;decide,by unfold Bd;decide⟩
 | _::_,_,.cons h t=>(zCD h (zNX t)).mono (by omega)
theorem zIw:∀ {qs:List Rat} {W:Nat},WB qs W->WB (DM.nadd qs) W
 | [],_,.nil=>.nil
 | [_],_,.cons h .nil=>.cons h .nil
 | a::b::r,_,.cons (m:=m) h (.cons (m:=n) (W:=W) k t)=>by
  have e:m+1+(n+1+W)=(m+n+1)+1+W:=by omega
  rw[e];exact .cons (zCD h k) (zIw t)
theorem zNW:∀ {qs:List Rat} {W i:Nat} {a b:Rat},WB qs W->qs[i]?=some a->qs[i+1]?=some b->∃ m n,RB m a/\RB n b/\m+n+2<=W
 | [],_,_,_,_,_,h,_=>by simp at h
 | [_],_,_,_,_,_,_,h=>by simp at h
 | x::y::r,_,0,a,b,.cons (m:=m) h (.cons (m:=n) k t),h1,h2=>by
  simp at h1 h2;subst h1 h2;exact⟨m,n,h,k,by omega⟩
 | x::y::r,_,i+1,a,b,.cons h t,h1,h2=>by
  obtain⟨m,n,q1,q2,q3⟩:=zNW (i:=i) t (by simpa using h1) (by simpa using h2);exact⟨m,n,q1,q2,by omega⟩
theorem zNY :∀ {qs:List Rat},(∀ q∈qs,RB n q)->WB qs (qs.length*(n+1))
 | [],_=>by rw[List.length_nil,Nat.zero_mul];exact .nil
 | q::qs,h=>by
  rw[xJ,Nat.succ_mul,Nat.add_comm];exact .cons (h q xq) (zNY λx z=>h x (qJ _ z))
noncomputable def zO4 (np:Nat):S:=.cons (.setC 1 (.comp1 2 [] "k" (.r3 (.int 0) (.bin .Sub (.len (.var 0)) (.int 1)) (.int 2)) .nil (.call np "plus" (.cons (.ix (.var 0) (.var 2)) (.cons (.ix (.var 0) (.bin .Add (.var 2) (.int 1))) .nil))))) (.cons (.ife (.cmp .Eq (.bin .Mod (.len (.var 0)) (.int 2)) (.int 1)) (.cons (.app 1 (.ix (.var 0) (.neg (.int 1)))) .nil) .nil) (.cons (.retOwn 1) .nil))
noncomputable def zI2 (nn ng:Nat):S:=.cons (.set 1 (.list (.var 0))) (.cons (.whl (.cmp .Gt (.len (.var 1)) (.int 1)) (.frz 1 (.cons (.set 1 (.call nn "neighbours_added" (.cons (.var 1) .nil))) .nil))) (.cons (.ret (.ite (.cmp .Eq (.len (.var 1)) (.int 1)) (.ix (.var 1) (.int 0)) (.glob ng "NOUGHT"))) .nil))
noncomputable def zCj (qs:List Rat):D:=.lst (qs.map ratD)
theorem zJT {qs:List Rat}{i:Nat}(h:qs[i]?=some q):atI (qs.map ratD) (i:Int)=some (ratD q):=zBT (by simp_all)
theorem zKN (n:Nat):(Builtin.Range.rangeSize 0 ((n:Int) - 1) 2).toNat=n / 2:=by
 unfold Builtin.Range.rangeSize;omega
theorem zPT {n:Nat}(h:n<=10000):ROk 0 ((n:Int) - 1) 2:=by
 refine⟨by decide,by decide,?_⟩;unfold Builtin.Range.small Builtin.Range.rangeSize;simp only[Builtin.Range.rangeFitsLong,x9,Bool.or_eq_true,qj,show (2:Int)>0 by decide,if_true];omega
def zNU (F:List D->Option R):Prop:=∀ (qs:List Rat) (W:Nat) (Q:R->Prop),WB qs W->W<=60000000->qs.length<=10000->Q (zCj (DM.nadd qs),.fr)->EvP (F [zCj qs]) Q
noncomputable def zRK (qs:List Rat):D->D
 | .int k=>ratD (qs.getD k.toNat 0+qs.getD (k.toNat+1) 0)
 | d=>d
theorem zKY {qs:List Rat}(h:qs[i]?=some q):qs.getD i 0=q:=by simp_all
theorem zO3 (ep:J.fns[np]?=some (("plus":Str),Fp))(hp:zEM Fp):zNU (dFun 1 2 (evSs J (zO4 np))):=λqs W Q wb hW hl h=>by
 (walk_at "d");unfold zO4;(walk_at "st");refine zAF (zHF (zCV (zQs ?_)));have el:((qs.map ratD).length:Int)=(qs.length:Int):=by rw[qy]
 walk_at "ev"
 refine zDT (zBR (zAH rfl ?_));refine(show EvP (lenD (.lst (qs.map ratD))) _ from ?_);(walk_at "w");rw[el];refine⟨_,_,_,rfl,rfl,rfl,zPT hl,?_⟩;rw[zKN];have ln:(rngS 0 2 (qs.length / 2)).length<=10000:=by unfold rngS;rw[qy,length_range];omega
 refine⟨ln,?_⟩;show EvP (zCa (tg1 2) (evC J .nil) _ _ ([some (zCj qs,false),none]++[none])) _;refine zLM (n:=2) (base:=[some (zCj qs,false),none]) rfl (zRK qs) _ _ (λz hz=>?_) ?_
 .unfold rngS at hz;obtain⟨i,hi,rfl⟩:=mem_map.mp hz;have hi':=mem_range.mp hi;have h1:2*i < qs.length:=by omega
  have h2:2*i+1 < qs.length:=by omega
  have e1:qs[2*i]?=some qs[2*i]:=by simp[h1]
  have e2:qs[2*i+1]?=some qs[2*i+1]:=by simp[h2]
  obtain⟨m,n,r1,r2,r3⟩:=zNW wb e1 e2;have ek:(0:Int)+(i:Int)*2=((2*i:Nat):Int):=by omega
  have ek2:((2*i:Nat):Int)+1=((2*i+1:Nat):Int):=by omega
  rw[ek];refine zAI ep (zAG (zBF (zAH rfl (zAH rfl ?_))));refine zA3 (zJT e1) ?_;(walk_at "w");rw[ek2];refine(show EvP (ixD (.lst (qs.map ratD)) (.int ((2*i+1:Nat):Int))) _ from ?_);refine zA3 (zJT e2) ?_;(walk_at "w");refine hp _ _ m n _ r1 r2 (by omega) ?_;(walk_at "w");show _=ratD _;rw[toNat_natCast,zKY e1,zKY e2]
 .have em:(rngS 0 2 (qs.length / 2)).map (zRK qs)=((List.range (qs.length / 2)).map λi=>qs.getD (2*i) 0+qs.getD (2*i+1) 0).map ratD:=by
   unfold rngS;rw[map_map,map_map];refine map_congr_left λi _=>?_
   show ratD _=ratD _;rw[show ((0:Int)+(i:Int)*2).toNat=2*i by omega]
  rw[em];have fin:=DM.zJ0 qs;(walk_at "w");refine(show EvP (lenD (.lst (qs.map ratD))) _ from ?_);(walk_at "w");rw[el];refine zEG (by decide) ?_;(walk_at "w");refine zA6 (λc=>?_) λc=>?_
  .have c':qs.length%2=1:=by
    rw[Int.fmod_eq_emod_of_nonneg _ (by decide)] at c;omega
   rw[if_pos c'] at fin;refine zAF (zHw rfl (by rw[qy,qy,length_range];omega) ?_);(walk_at "w");have hlast:qs[qs.length - 1]?=some (qs.getD (qs.length - 1) 0):=by
    have:qs.length - 1 < qs.length:=by omega
    rw[getD_eq_getElem?_getD];simp[this]
   have at1:atI (qs.map ratD) (-1)=some (ratD (qs.getD (qs.length - 1) 0)):=by
    unfold L2.atI;have ei:ixN (qs.map ratD).length (-1)=some (qs.length - 1):=by
     unfold L2.ixN;rw[qy];split<;>first | omega | (split<;>first | omega | (congr 1;omega)) | (congr 1;omega)
    rw[ei];show (qs.map ratD)[qs.length - 1]?=_;rw[getElem?_map,hlast]
    rfl
   refine(show EvP (ixD (.lst (qs.map ratD)) (.int (-1))) _ from ?_);refine zA3 at1 ?_;(walk_at "w");have e3:List.map ratD ((List.range (qs.length / 2)).map λi=>qs.getD (2*i) 0+qs.getD (2*i+1) 0)++[ratD (qs.getD (qs.length - 1) 0)]=(DM.nadd qs).map ratD:=by
    rw[<- fin,x8];rfl
   rw[e3];exact h
  .have c':¬ qs.length%2=1:=λz=>c (by
    rw[Int.fmod_eq_emod_of_nonneg _ (by decide)];omega)
   rw[if_neg c',append_nil] at fin;(walk_at "w");rw[fin];exact h
def zLc (F:List D->Option R):Prop:=∀ (qs:List Rat) (W:Nat) (Q:R->Prop),WB qs W->W<=60000000->qs.length<=10000->Q (ratD (DM.sumR qs),.cl)->EvP (F [zCj qs]) Q
theorem zIL (en:J.fns[nn]?=some (("neighbours_added":Str),Fn))(hn:zNU Fn):∀ (n:Nat) (qs:List Rat) (W:Nat) (o:Bool),qs.length<=n->WB qs W->W<=60000000->qs.length<=10000 ->
    (∀ qs' o,DM.sumR qs'=DM.sumR qs->qs'.length<=1->(qs.length=0<->qs'.length=0)->Q (.nx [x0,some (zCj qs',o)])) ->
    EvP (zBH (asB (evE J (.cmp .Gt (.len (.var 1)) (.int 1)))) (evSs J (.frz 1 (.cons (.set 1 (.call nn "neighbours_added" (.cons (.var 1) .nil))) .nil))) [x0,some (zCj qs,o)]) Q:=by
  intro n
  induction n with
  | zero =>
    intro qs W o hl wb hW hl2 q;have e:qs=[]:=List.eq_nil_of_length_eq_zero (by omega);subst e;refine zBs (as_b ?_);refine zDS (zBR (zHt rfl ?_));refine(show EvP (lenD (.lst [])) _ from ?_);(walk_at "w");refine zDV (by simp) ?_;exact q [] o rfl (by simp) (by simp)
  | succ n ih =>
    intro qs W o hl wb hW hl2 q;refine zBs (as_b ?_);refine zDS (zBR (zHt rfl ?_));refine(show EvP (lenD (.lst (qs.map ratD))) _ from ?_);(walk_at "w");rw[qy];by_cases c:1 < qs.length
    . refine zDU (by omega) ?_;have go:EvP (evSs J (.cons (.set 1 (.call nn "neighbours_added" (.cons (.var 1) .nil))) .nil) [x0,some (zCj qs,false)]) λo=>match o with
          | .nx G'=>EvP (zBH (asB (evE J (.cmp .Gt (.len (.var 1)) (.int 1)))) (evSs J (.frz 1 (.cons (.set 1 (.call nn "neighbours_added" (.cons (.var 1) .nil))) .nil))) G') Q
          | .ct G'=>EvP (zBH (asB (evE J (.cmp .Gt (.len (.var 1)) (.int 1)))) (evSs J (.frz 1 (.cons (.set 1 (.call nn "neighbours_added" (.cons (.var 1) .nil))) .nil))) G') Q
          | .bk G'=>Q (.nx G')
          | .rt r=>Q (.rt r):=by
        refine zAF (zD5 (zAI en ?_));(walk_at "w");refine hn qs W _ wb hW hl2 ?_;(walk_at "w");have l2:=DM.zHi qs;refine ih (DM.nadd qs) W true (by omega) (zIw wb) hW (by omega) λqs' o e1 e2 e3=>?_
        exact q qs' o (e1.trans (DM.zHh qs)) e2 ⟨λz=>absurd z (by omega),λz=>absurd (e3.mpr z) (by omega)⟩
      cases o with
      | true=>exact zHs rfl go
      | false=>exact zKm rfl go
    . refine zDV (by omega) ?_;exact q qs o rfl (by omega) Iff.rfl
theorem zLu (en:J.fns[nn]?=some (("neighbours_added":Str),Fn))(hn:zNU Fn)(eg:J.cs[ng]?=some (("NOUGHT":Str),.tup [.int 0,.int 1])):zLc (dFun 1 2 (evSs J (zI2 nn ng))):=λqs W Q wb hW hl h=>by
 (walk_at "d");unfold zI2;(walk_at "st");refine zAF (zD5 (zFb (zAH rfl ?_)));refine(show EvP (zIc (.lst (qs.map ratD))) _ from ?_);(walk_at "w");refine zIL en hn qs.length qs W true (le_refl _) wb hW hl λqs' o e1 e2 e3=>?_
 refine k_nx ?_;refine zAF (zBS (zOD (zDS (zBR (zHt rfl ?_)))));refine(show EvP (lenD (.lst (qs'.map ratD))) _ from ?_);(walk_at "w");rw[qy];rw[<- e1] at h
 match qs',e2 with
 | [],_ =>
  refine zDV (by simp) ?_;refine zCr eg ?_;rw[zLo];(walk_at "w");exact h
 | [a],_ =>
  refine zDU (by simp) ?_;refine zBF (zHt rfl ?_);(walk_at "w");refine(show EvP (ixD (.lst [ratD a]) (.int 0)) _ from ?_);(walk_at "w");have e4:DM.sumR [a]=a:=by simp only[DM.sumR,Rat.add_zero]
  rw[e4] at h;exact h
 | _::_::_,z=>exact absurd z (by simp)
abbrev Pt:=DM.Pt
noncomputable def ptD (p:Pt):D:=.tup [ratD p.1,ratD p.2]
noncomputable def zFw (s:Pt×Pt):D:=.tup [ptD s.1,ptD s.2]
noncomputable def zJP (ps:List Pt):D:=.lst (ps.map ptD)
def PB (n:Nat)(p:Pt):Prop:=RB n p.1/\RB n p.2
theorem i_p0 (h:Q (ratD p.1,.cl)):EvP (ixD (ptD p) (.int 0)) Q:=zCp rfl h
theorem i_p1 (h:Q (ratD p.2,.cl)):EvP (ixD (ptD p) (.int 1)) Q:=zCp rfl h
theorem i_s0 (h:Q (ptD s.1,.cl)):EvP (ixD (zFw s) (.int 0)) Q:=zCp rfl h
theorem i_s1 (h:Q (ptD s.2,.cl)):EvP (ixD (zFw s) (.int 1)) Q:=zCp rfl h
theorem zH1 (p:Pt):DOk 2 (ptD p):=zHH λd h=>by
 rcases mem_cons.mp h with rfl | h
 .exact zD8 _
 .rcases mem_cons.mp h with rfl | h
  .exact zD8 _
  .simp_all
theorem zH6 (xs:List D)(k:Nat):cutD xs (some (k:Int)) none=xs.drop k:=by
 unfold cutD;rw[HT.zGh,HT.zFH];by_cases h:k<=xs.length
 .rw [Nat.min_eq_left h,take_of_length_le (by simp)]
 .rw [Nat.min_eq_right (by omega),List.drop_length,List.take_nil,drop_eq_nil_of_le (by omega)]
theorem zS7 (xs:List D)(k:Nat):cutD xs none (some (k:Int))=xs.take k:=by
 unfold cutD;rw[HT.zGh,HT.zFH];simp
theorem zLn (as bs:List Pt):zipT (as.map ptD) (bs.map ptD)=(as.zip bs).map zFw:=by
 unfold zipT;rw[List.zipWith_map,List.zip_eq_zipWith,List.map_zipWith]
 rfl
noncomputable def zJH:S:=.cons (.ret (.lzip (.var 0) (.bin .Add (.sl (.var 0) (.cons (.int 1) .nil) .nil) (.sl (.var 0) .nil (.cons (.int 1) .nil))))) .nil
def zLe (F:List D->Option R):Prop:=∀ (ps:List Pt) (Q:R->Prop),ps.length<=9000->Q (.lst ((DM.zFv ps).map zFw),.fr)->EvP (F [zJP ps]) Q
theorem zLy :zLe (dFun 1 1 (evSs J zJH)):=λps Q hl h=>by
 (walk_at "d");unfold zJH;refine zAF (zBS (zKs (zAH rfl (zDT (zP5 (zAH rfl ?_))))));(walk_at "w");refine⟨ps.map ptD,rfl,?_⟩;refine zP5 (zAH rfl ?_);(walk_at "w");refine⟨ps.map ptD,rfl,?_⟩;have e1:cutD (ps.map ptD) (some 1) none=(ps.drop 1).map ptD:=by rw[show (1:Int)=((1:Nat):Int) from rfl,zH6,List.map_drop]
 have e2:cutD (ps.map ptD) none (some 1)=(ps.take 1).map ptD:=by rw[show (1:Int)=((1:Nat):Int) from rfl,zS7,List.map_take]
 rw[e1,e2];refine zNQ (by rw[qy,qy,length_drop,length_take];omega) ?_;rw[<- x8];refine zTQ ⟨?_,?_⟩ ?_
 .rw [qy,qy];exact(DM.zJL ps).symm
 .rw [qy];omega
 .rw [(zLn ps _)];(walk_at "w");exact h
theorem zGj:RB 2 (1 / 2:Rat):=⟨by unfold Bd;decide +kernel,by unfold Bd;decide +kernel⟩
theorem zGz (i:Int):D.tup [.int i,.int 1]=ratD (i:Rat):=rfl
theorem zAY (lo:Int)(n:Nat):(rngL lo n).length=n:=by unfold rngL;simp
theorem zLL {T:Type}{J:Gm}{n:Nat}{el:E}{base:Dst}{Q:List D->Prop}(hn:base.length=n)(enc g:T->D):∀ (xs:List T) (o:Option (D×Bool)),(∀ x∈xs,EvP (evE J el (base++[some (enc x,false)])) λr=>r.2≠.dt/\r.1=g x)->Q (xs.map g)->EvP (zCa (tg1 n) (evC J .nil) (evE J el) (xs.map enc) (base++[o])) Q
 | [],o,_,h=>⟨_,rfl,h⟩
 | z::zs,o,hz,h=>by
  obtain⟨r,e,nd,er⟩:=hz z xq;obtain⟨ys,e2,q⟩:=zLL (Q:=λys=>Q (g z::ys)) hn enc g zs (some (enc z,false)) (λy hy=>hz y (qJ _ hy)) h;refine⟨_,?_,q⟩;have es:(base++[o]).set n (some (enc z,false))=base++[some (enc z,false)]:=by
   rw[set_append_right _ _ (by omega),hn,sub_self];rfl
  show (tg1 n (enc z) (base++[o])).bind _=_;unfold tg1;rw[es,qx,zDK,qx,if_pos rfl,e,qx,if_neg nd,er];show (zCa _ _ _ (zs.map enc) (base++[some (enc z,false)])).bind _=_;unfold tg1 at e2;rw[zDK] at e2;rw[e2]
  rfl
noncomputable def zBk (rs:List (List Pt)):D:=.lst (rs.map zJP)
theorem zBf:RB 1 0:=⟨by unfold Bd;decide,by unfold Bd;decide⟩
theorem zCc:RB 1 1:=⟨by unfold Bd;decide,by unfold Bd;decide⟩
theorem PB.x (h:PB n p):RB n p.1:=h.1
theorem PB.y (h:PB n p):RB n p.2:=h.2
theorem PB.mono (h:PB m p)(l:m<=n):PB n p:=⟨h.1.mono l,h.2.mono l⟩
abbrev Ln:=DM.Ln
end DL
end
open PySem L2 DL
local macro_rules | `(tactic| walk_at "rb")=>`(tactic| first
 | assumption | exact zBf | exact zCc | exact zGj | exact PB.x (by assumption) | exact PB.y (by assumption) | exact LB.a (by assumption) | exact LB.b (by assumption) | exact LB.c (by assumption)
 | with_reducible apply zCD | with_reducible apply zDN | with_reducible apply zA0 | with_reducible apply rb_neg | (with_reducible apply zJS;assumption))
section
namespace DL
open PySem L2
theorem zRT (h:OpF f F)(h1:RB m p)(h2:RB n q)(h3:m+n<=60000000)(h4:Q (ratD (f p q),.cl)):EvP (F [ratD p,ratD q]) Q:=h p q m n Q h1 h2 h3 h4
theorem zJd (h:zFm F)(h0:q≠0)(h1:RB m p)(h2:RB n q)(h3:m+n<=60000000)(h4:Q (ratD (p / q),.cl)):EvP (F [ratD p,ratD q]) Q:=h p q m n Q h0 h1 h2 h3 h4
end DL
end
open PySem L2 DL
local macro_rules | `(tactic| walk_at "ev")=>`(tactic| first
 | (with_reducible first | refine c_eq0 ?_ | refine wr_cl ?_ | refine wr_fr ?_ | refine i_p0 ?_ | refine i_p1 ?_ | refine i_s0 ?_ | refine i_s1 ?_ | refine i_l0 ?_ | refine i_l1 ?_ | refine i_l2 ?_ | refine l_ring ?_ | refine t_ring ?_ | refine is_tp ?_ | refine is_tl ?_ | refine is_lr ?_ | refine l_pt ?_ | refine l_ln ?_ | refine c_eqRat ?_ | refine c_neRat ?_)
 | ((with_reducible show EvP (evE _ (E.call _ _ _) _) _);refine zAI (by assumption) ?_) | ((with_reducible show EvP (evE _ (E.glob _ _) _) _);refine zCr (by assumption) ?_)
 | ((try dsimp only);with_reducible refine zRT (by assumption) (by (repeat walk_at "rb")) (by (repeat walk_at "rb")) (by omega) ?_))
section
namespace DL
open PySem L2
theorem zFI (h:x∈rngL 0 n):∃ k:Int,x=.int k/\0<=k/\k < n:=by
 unfold rngL at h;grind
noncomputable def zIz:S:=.cons (.ret (.cmp .Lt (.bin .Mult (.ix (.var 0) (.int 0)) (.ix (.var 1) (.int 1))) (.bin .Mult (.ix (.var 1) (.int 0)) (.ix (.var 0) (.int 1))))) .nil
def zEy (F:List D->Option R):Prop:=∀ (p q:Rat) (m n:Nat) (Q:R->Prop),RB m p->RB n q->m+n<=60000000->Q (.bl (decide (p < q)),.cl)->EvP (F [ratD p,ratD q]) Q
theorem zMJ (p q:Rat):(p < q)<->p.num*q.den < q.num*p.den:=Rat.lt_iff ..
theorem zLs :zEy (dFun 2 2 (evSs J zIz)):=λp q m n Q hp hq l h=>by
 (walk_at "d");unfold zIz;(walk_at "st");(walk_at "w");refine zBD (zBQ hp.num hq.den l) ?_;(walk_at "w");refine zBD (zBQ hq.num hp.den (by omega)) ?_;(walk_at "w");have e:decide (p.num*↑q.den < q.num*↑p.den)=decide (p < q):=by
  rw[decide_eq_decide];exact(zMJ p q).symm
 rw[e];exact h
theorem zCS (h:zEy F)(h1:RB m p)(h2:RB n q)(h3:m+n<=60000000)(h4:Q (.bl (decide (p < q)),.cl)):EvP (F [ratD p,ratD q]) Q:=h p q m n Q h1 h2 h3 h4
noncomputable def hD (L:Ln):D->D
 | .tup [.tup [.int a,.int b],.tup [.int c,.int e]]=>ratD (DM.hq L (Rat.divInt a b,Rat.divInt c e))
 | d=>d
theorem zQ1 (h:(rngL 0 n).drop i=x::xs):i < n/\x=.int (i:Int)/\xs=(rngL 0 n).drop (i+1):=by
 have hi:i < (rngL 0 n).length:=by
  by_cases q:i < (rngL 0 n).length
  .omega
  .rw [drop_eq_nil_of_le (by omega)] at h;cases h
 rw[List.drop_eq_getElem_cons hi] at h;cases h;rw[zAY] at hi
 simp_all
 unfold rngL;simp
theorem zOe (h:[]=(rngL 0 n).drop i)(hi:i<=n):i=n:=by
 have:=congrArg List.length h;rw[List.length_nil,length_drop,zAY] at this;omega
end DL
end
open PySem L2 DL
local macro_rules | `(tactic| walk_at "e")=>`(tactic| (repeat ((fail_if_success (with_reducible show EvP (evSs _ _ _) _));walk_at "ev")))
open PySem L2 DL
local macro_rules | `(tactic| walk_at "c")=>`(tactic| simp only [cons_append,nil_append])
section
namespace DL
open PySem L2
theorem zEp (hn:base.length=n)(P:D->Prop):∀ (zs:List D) (o:Option (D×Bool)),(∀ z∈zs,EvP (evC J c (base++[some (z,false)])) λb=>b=true->EvP (evE J el (base++[some (z,false)])) λr=>r.2≠.dt/\P r.1)->(∀ ys,ys.length<=zs.length->(c=.nil->ys.length=zs.length)->(∀ y∈ys,P y)->Q ys)->EvP (zCa (tg1 n) (evC J c) (evE J el) zs (base++[o])) Q
 | [],o,_,h=>⟨_,rfl,h [] (le_refl _) (λ_=>rfl) (by simp)⟩
 | z::zs,o,hc,h=>by
  obtain⟨b,eb,hb⟩:=hc z xq;have et:tg1 n z (base++[o])=some (base++[some (z,false)]):=by unfold tg1;rw[set_append_right _ _ (by omega),hn,sub_self];rfl
  have ih:=λQ'=>zEp (Q:=Q') hn P zs (some (z,false)) λy hy=>hc y (qJ _ hy)
  cases b with
  | true =>
   obtain⟨r,e,nd,p⟩:=hb rfl;obtain⟨ys,e2,q⟩:=ih (λys=>Q (r.1::ys)) λys l1 l2 l3=>h _ (Nat.succ_le_succ l1) (λz=>congrArg Nat.succ (l2 z)) (by simpa using ⟨p,l3⟩)
   refine⟨_,?_,q⟩;show (tg1 n z (base++[o])).bind _=_;rw[et,qx,eb,qx,if_pos rfl,e,qx,if_neg nd,e2]
   rfl
  | false =>
   obtain⟨ys,e2,q⟩:=ih Q λys l1 l2 l3=>h _ (Nat.le_succ_of_le l1) (λz=>by subst z;cases eb) l3
   refine⟨_,?_,q⟩;show (tg1 n z (base++[o])).bind _=_;rw[et,qx,eb,qx,if_neg qY,e2]
theorem zKl {T:Type}{f:T->D}{P:T->Prop}:∀ {ds:List D},(∀ d∈ds,∃ a,d=f a/\P a)->∃ as:List T,ds=as.map f/\∀ a∈as,P a
 | [],_=>⟨[],rfl,by simp⟩
 | d::ds,h=>by
  obtain⟨a,rfl,p⟩:=h _ xq;obtain⟨as,rfl,q⟩:=zKl λd m=>h d (qJ _ m)
  exact⟨a::as,rfl,by simpa using ⟨p,q⟩⟩
theorem zFj {ds:List D}{k:Int}(h0:0<=k)(h1:k < ds.length):∃ d,d∈ds/\atI ds k=some d:=by
 obtain⟨i,rfl⟩:=Int.eq_ofNat_of_zero_le h0;have e:ds[i]?=some ds[i]:=getElem?_eq_getElem _;exact⟨_,mem_of_getElem? e,zBT e⟩
def isP (n:Nat)(d:D):Prop:=∃ p:Pt,d=ptD p/\PB n p
def isK (a b:Rat)(d:D):Prop:=∃ k:Int,d=.int k/\RB 8 (k:Rat)/\a≠b
noncomputable def wpB:S:=.cons (.ret (.bin .FloorDiv (.ix (.var 0) (.int 0)) (.ix (.var 0) (.int 1)))) .nil
def WpF (F:List D->Option R):Prop:=∀ (q:Rat) (Q:R->Prop),(∀ k:Int,Q (.int k,.cl))->EvP (F [ratD q]) Q
theorem zTS :WpF (dFun 1 1 (evSs J wpB)):=λq Q h=>by
 (walk_at "d");unfold wpB;(walk_at "w");refine zEH (zA5 q) ?_;(walk_at "w");exact h _
noncomputable def midB (nt np ng:Nat):S:=.cons (.ret (.call nt "times" (.cons (.glob ng "HALF") (.cons (.call np "plus" (.cons (.var 0) (.cons (.var 1) .nil))) .nil)))) .nil
def MidF (F:List D->Option R):Prop:=∀ (p q:Rat) (n:Nat) (Q:R->Prop),RB n p->RB n q->n<=10000000->(∀ m,RB (2*n+3) m->Q (ratD m,.cl))->EvP (F [ratD p,ratD q]) Q
theorem zRc (et:J.fns[nt]?=some (("times":Str),Ft))(ep:J.fns[np]?=some (("plus":Str),Fp))(eg:J.cs[ng]?=some (("HALF":Str),.tup [.int 1,.int 2]))(ht:zDX Ft)(hp:zEM Fp):MidF (dFun 2 2 (evSs J (midB nt np ng))):=λp q n Q h1 h2 hn h=>by
 (walk_at "d");unfold midB;(walk_at "st");(walk_at "w");rw[zMb];refine zRT ht zGj (by (repeat walk_at "rb")) (by omega) ?_;(walk_at "w");exact h _ ((zA0 zGj (zCD h1 h2)).mono (by omega))
noncomputable def zOz (nu ns:Nat):S:=.cons (.ife (.call nu "under" (.cons (.var 1) (.cons (.var 0) .nil))) (.cons (.ret (.lrev (.call ns "numbers_between" (.cons (.var 1) (.cons (.var 0) (.cons (.var 2) .nil)))))) .nil) .nil) (.cons (.ret (.comp1 3 [] "number" (.r1 (.bin .Add (.var 2) (.int 1))) (.cons (.andl (.cons (.call nu "under" (.cons (.var 0) (.cons (.tup (.cons (.var 3) (.cons (.int 1) .nil))) .nil))) (.cons (.call nu "under" (.cons (.tup (.cons (.var 3) (.cons (.int 1) .nil))) (.cons (.var 1) .nil))) .nil))) .nil) (.var 3))) .nil)
def zLj (C:Rat->Rat->Prop)(F:List D->Option R):Prop:=∀ (a b:Rat) (l n:Nat) (Q:R->Prop),C a b->RB n a->RB n b->n<=10000000->l<=100->(∀ ds,ds.length<=l+1->(∀ d∈ds,isK a b d)->Q (.lst ds,.fr))->EvP (F [ratD a,ratD b,.int l]) Q
theorem zJv (eu:J.fns[nu]?=some (("under":Str),Fu))(hu:zEy Fu)(hs:∀ {a b},C a b->b < a->∃ Fs,J.fns[ns]?=some (("numbers_between":Str),Fs)/\zLj (λa b=>¬ b < a) Fs):zLj C (dFun 3 3 (evSs J (zOz nu ns))):=λa b l n Q hc ha hb hn hl h=>by
 (walk_at "d");unfold zOz;(walk_at "st");(walk_at "w");refine zCS hu hb ha (by omega) ?_;(walk_at "w");refine zA6 (λc=>?_) λc=>?_
 .obtain ⟨Fs,es,hs⟩:=hs hc c;refine zAF (zBS (zP6 (zAI es ?_)));(walk_at "w");refine hs b a l n _ (by grind) hb ha hn hl λds l1 l2=>n_fr ⟨_,rfl,by omega,?_⟩
  (walk_at "w");refine h _ (by simpa using l1) λd hd=>?_
  obtain⟨k,e,r,z⟩:=l2 d (by simpa using hd);exact⟨k,e,r,z.symm⟩
 ·(walk_at "w");refine⟨by omega,?_⟩;rw[show ((l:Int)+1).toNat=l+1 by omega];refine⟨by rw[zAY];omega,?_⟩;refine zEp (n:=3) (base:=[_,_,_]) rfl (isK a b) _ _ (λz hz=>as_b ?_) λys l1 _ l2=>?_
  .obtain ⟨k,rfl,k0,k1⟩:=zFI hz;(walk_at "c");have rk:RB 8 (k:Rat):=zHX (zDQ (k:=200) (by omega) (by decide)) (by decide);(walk_at "w");rw[zGz];refine zCS hu ha rk (by omega) ?_;(walk_at "w");refine zA6 (λc=>?_) λc=>?_
   ·(walk_at "w");refine zCS hu rk hb (by omega) ?_;(walk_at "w");intro c2;have:=of_decide_eq_true c2;(walk_at "w");exact⟨k,rfl,rk,by grind⟩
   ·(walk_at "w");exact λz=>nomatch z
  ·(walk_at "w");exact h _ (by rwa [zAY] at l1) l2
noncomputable def zJR (nd nm np nt:Nat):S:=.cons (.ife (.cmp .Eq (.len (.var 0)) (.int 0)) (.cons (.ret (.lst .nil)) .nil) .nil) (.cons (.set 5 (.call nd "parted" (.cons (.call nm "minus" (.cons (.var 4) (.cons (.var 3) .nil))) (.cons (.call nm "minus" (.cons (.var 2) (.cons (.var 1) .nil))) .nil)))) (.cons (.ret (.comp1 6 [] "number" (.it (.var 0)) .nil (.call np "plus" (.cons (.var 3) (.cons (.call nt "times" (.cons (.var 5) (.cons (.call nm "minus" (.cons (.tup (.cons (.var 6) (.cons (.int 1) .nil))) (.cons (.var 1) .nil))) .nil))) .nil))))) .nil))
def isR (n:Nat)(d:D):Prop:=∃ q:Rat,d=ratD q/\RB n q
def zLg (F:List D->Option R):Prop:=∀ (ks:List D) (a b c e:Rat) (n:Nat) (Q:R->Prop),RB n a->RB n b->RB n c->RB n e->8*n+20<=10000000->(∀ k∈ks,isK a b k)->ks.length<=200->(∀ ds,ds.length=ks.length->(∀ d∈ds,isR (8*n+20) d)->Q (.lst ds,.fr))->EvP (F [.lst ks,ratD a,ratD b,ratD c,ratD e]) Q
theorem zL3 (ed:J.fns[nd]?=some (("parted":Str),Fd))(em:J.fns[nm]?=some (("minus":Str),Fm))(ep:J.fns[np]?=some (("plus":Str),Fp))(et:J.fns[nt]?=some (("times":Str),Ft))
  (hd:zFm Fd) (hm:zE2 Fm) (hp:zEM Fp) (ht:zDX Ft):zLg (dFun 5 6 (evSs J (zJR nd nm np nt))):=λks a b c e n Q ha hb hc he hn hk hl h=>by
 (walk_at "d");unfold zJR;(walk_at "st");(walk_at "w");refine zA6 (λz=>?_) λz=>?_
 ·(walk_at "w");exact h [] (by show (0:Nat)=_;omega) (by simp)
 .obtain ⟨k,mk,_⟩:=zFj (ds:=ks) (k:=0) (by decide) (by omega);obtain⟨_,_,_,ne⟩:=hk k mk;have nz:b - a≠0:=by grind
  have rs:=zJS nz (zDN he hc) (zDN hb ha);(walk_at "w");refine zJd hd nz (by (repeat walk_at "rb")) (by (repeat walk_at "rb")) (by omega) ?_;(walk_at "w");refine⟨by omega,?_⟩;refine zEp (n:=6) (base:=[_,_,_,_,_,_]) rfl (isR (8*n+20)) _ _ (λy hy=>⟨true,rfl,λ_=>?_⟩) λys _ l1 l2=>?_
  .obtain ⟨k,rfl,rk,_⟩:=hk y hy;(walk_at "c");(walk_at "w");rw[zGz];(walk_at "w");exact⟨_,rfl,(zCD hc (zA0 rs (zDN rk ha))).mono (by omega)⟩
  ·(walk_at "w");exact h _ (l1 rfl) l2
noncomputable def crB (u:Bool)(nn nr:Nat):S:=.cons (.set 2 (.ix (.var 0) (.int 0))) (.cons (.set 3 (.ix (.var 0) (.int 1))) (.cons (.set 4 (.call nn "numbers_between" (.cons (.ix (.var 2) (.int (cond u 0 1))) (.cons (.ix (.var 3) (.int (cond u 0 1))) (.cons (.var 1) .nil))))) (.frz 4 (.cons (.set 5 (.call nr "rests_at" (.cons (.var 4) (.cons (.ix (.var 2) (.int (cond u 0 1))) (.cons (.ix (.var 3) (.int (cond u 0 1))) (.cons (.ix (.var 2) (.int (cond u 1 0))) (.cons (.ix (.var 3) (.int (cond u 1 0))) .nil))))))) (.frz 4 (.frz 5 (.cons (.ret (.comp1 6 [] "k" (.r1 (.len (.var 4))) .nil (.tup (cond u (.cons (.tup (.cons (.ix (.var 4) (.var 6)) (.cons (.int 1) .nil))) (.cons (.ix (.var 5) (.var 6)) .nil)) (.cons (.ix (.var 5) (.var 6)) (.cons (.tup (.cons (.ix (.var 4) (.var 6)) (.cons (.int 1) .nil))) .nil)))))) .nil)))))))
def CrF (F:List D->Option R):Prop:=∀ (s:Pt×Pt) (w n:Nat) (Q:R->Prop),PB n s.1->PB n s.2->8*n+20<=10000000->w<=100->(∀ ds,ds.length<=w+1->(∀ d∈ds,isP (8*n+20) d)->Q (.lst ds,.fr))->EvP (F [zFw s,.int w]) Q
theorem zS9 (u:Bool)(en:J.fns[nn]?=some (("numbers_between":Str),Fn))(er:J.fns[nr]?=some (("rests_at":Str),Fr))(hn:zLj (λ_ _=>True) Fn)(hr:zLg Fr):CrF (dFun 2 6 (evSs J (crB u nn nr))):=λs w n Q h1 h2 hl hw h=>by
 (walk_at "d");unfold crB;cases u
 all_goals
  dsimp only[cond];(walk_at "st");(walk_at "w");refine hn _ _ w n _ trivial (by first | exact h1.x | exact h1.y) (by first | exact h2.x | exact h2.y) (by omega) hw λks l1 l2=>?_
  (walk_at "w");refine hr ks _ _ _ _ n _ (by first | exact h1.x | exact h1.y) (by first | exact h2.x | exact h2.y) (by first | exact h1.x | exact h1.y) (by first | exact h2.x | exact h2.y) hl l2 (by omega) λrs m1 m2=>?_
  (walk_at "w");refine⟨by omega,?_⟩;rw[toNat_natCast];refine⟨by rw[zAY];omega,?_⟩;refine zEp (n:=6) (base:=[_,_,_,_,_,_]) rfl (isP (8*n+20)) _ _ (λz hz=>⟨true,rfl,λ_=>?_⟩) λys y1 _ y2=>?_
  .obtain ⟨k,rfl,k0,k1⟩:=zFI hz;(walk_at "c");obtain⟨a,ma,ea⟩:=zFj (ds:=ks) k0 k1;obtain⟨b,mb,eb⟩:=zFj (ds:=rs) k0 (by omega);obtain⟨i,rfl,ri,_⟩:=l2 a ma;obtain⟨q,rfl,rq⟩:=m2 b mb;(walk_at "w")
   iterate 2
    first | refine zA3 ea ?_ | refine zA3 eb ?_
    (walk_at "w")
   first | exact⟨((i:Rat),q),rfl,ri.mono (by omega),rq⟩ | exact⟨(q,(i:Rat)),rfl,rq,ri.mono (by omega)⟩
  ·(walk_at "w");exact h _ (by rw[zAY] at y1;omega) y2
noncomputable def zLZ (nu:Nat):S:=.cons (.ife (.var 2) (.cons (.ret (.call nu "under" (.cons (.ix (.var 0) (.int 0)) (.cons (.ix (.var 1) (.int 0)) .nil)))) .nil) .nil) (.cons (.ret (.call nu "under" (.cons (.ix (.var 1) (.int 0)) (.cons (.ix (.var 0) (.int 0)) .nil)))) .nil)
def zIG (F:List D->Option R):Prop:=∀ (p q:Pt) (r:Bool) (n:Nat) (Q:R->Prop),PB n p->PB n q->n<=10000000->(∀ b,Q (.bl b,.cl))->EvP (F [ptD p,ptD q,.bl r]) Q
theorem zNS (eu:J.fns[nu]?=some (("under":Str),Fu))(hu:zEy Fu):zIG (dFun 3 3 (evSs J (zLZ nu))):=λp q r n Q hp hq hn h=>by
 (walk_at "d");unfold zLZ;(walk_at "st");refine zAF (zD6 (zAH rfl ⟨r,rfl,zFe (λ_=>?_) λ_=>?_⟩))
 ·(walk_at "w");refine zCS hu hp.x hq.x (by omega) ?_;(walk_at "w");exact h _
 ·(walk_at "w");refine zCS hu hq.x hp.x (by omega) ?_;(walk_at "w");exact h _
noncomputable def zPB:S:=.cons (.app 3 (.ix (.var 1) (.var 4))) (.cons (.aug .Add 4 (.int 1)) .nil)
noncomputable def zPC (na:Nat):E:=.andl (.cons (.cmp .Lt (.var 4) (.len (.var 1))) (.cons (.call na "comes_ahead" (.cons (.ix (.var 1) (.var 4)) (.cons (.var 5) (.cons (.var 2) .nil)))) .nil))
noncomputable def zRg (na:Nat):S:=.cons (.whl (zPC na) zPB) (.cons (.ife (.andl (.cons (.cmp .Lt (.var 4) (.len (.var 1))) (.cons (.cmp .Eq (.ix (.var 1) (.var 4)) (.var 5)) .nil))) (.cons (.aug .Add 4 (.int 1)) .nil) .nil) (.cons (.app 3 (.var 5)) .nil))
noncomputable def zRh (na:Nat):S:=.cons (.set 3 (.lst .nil)) (.cons (.set 4 (.int 0)) (.cons (.for1 5 (.it (.var 0)) (zRg na)) (.cons (.ret (.bin .Add (.var 3) (.sl (.var 1) (.cons (.var 4) .nil) .nil))) .nil)))
theorem zK5 (ha:G[i]?=some (some (.int a,false)))(h:EvP (evE J e G) λr=>∃ b,r.1=.int b/\Q (.nx (G.set i (some (.int (a+b),false))))):EvP (evS J (.aug .Add i e) G) Q:=by
 rw[evS];obtain⟨⟨d,k⟩,e1,b,e2,q⟩:=h;subst e2;refine⟨_,?_,q⟩;unfold augD;rw[ha,e1]
 rfl
def zQd (F:List D->Option R):Prop:=∀ (xs ys:List D) (r:Bool) (n:Nat) (Q:R->Prop),(∀ x∈xs,isP n x)->(∀ y∈ys,isP n y)->n<=10000000->xs.length+ys.length<=1000->(∀ ds,ds.length<=xs.length+ys.length->(∀ d∈ds,isP n d)->Q (.lst ds,.fr))->EvP (F [.lst xs,.lst ys,.bl r]) Q
section
variable {J:Gm}{na:Nat}{Fa:List D->Option R}
theorem zIa (ea:J.fns[na]?=some (("comes_ahead":Str),Fa))(ha:zIG Fa)(hys:∀ y∈ys,isP n y)(hp:PB n p)(hn:n<=10000000)(hB:B<=1000) :
  ∀ (m:Nat) (acc:List D) (k:Nat),ys.length - k=m->acc.length+(ys.length - k)<=B->k<=ys.length->(∀ a∈acc,isP n a) ->
   (∀ (acc:List D) (k:Nat),acc.length+(ys.length - k)<=B->k<=ys.length->(∀ a∈acc,isP n a)->Q (.nx [x0,some (.lst ys,false),some (.bl r,false),some (.lst acc,true),some (.int (k:Int),false),some (ptD p,false)])) ->
   EvP (zBH (asB (evE J (zPC na))) (evSs J zPB) [x0,some (.lst ys,false),some (.bl r,false),some (.lst acc,true),some (.int (k:Int),false),some (ptD p,false)]) Q:=by
 intro m
 induction m using Nat.strongRecOn with
 | _ m ih =>
  intro acc k hm hb hk ha' h;refine zBs (as_b ?_);unfold zPC;(walk_at "w");refine zA6 (λc=>?_) λc=>?_
  .obtain ⟨y,my,ey⟩:=zFj (ds:=ys) (k:=k) (by omega) c;have hy:=hys y my;obtain⟨p2,rfl,b2⟩:=hys y my;refine zHC (zAI ea ?_);(walk_at "w");refine zA3 ey ?_;(walk_at "w");refine ha _ _ _ n _ b2 hp hn λb=>?_
   (walk_at "w");refine zFe (λ_=>?_) λ_=>h _ _ hb hk ha'
   unfold zPB;refine zAF (zHw (xs:=acc) (i:=3) rfl (by omega) ?_);(walk_at "w");refine zA3 ey ?_;(walk_at "w");refine zK5 (i:=4) rfl ?_;(walk_at "w");rw[show (k:Int)+1=((k+1:Nat):Int) by omega];exact ih (ys.length - (k+1)) (by omega) (acc++[ptD p2]) (k+1) rfl (by rw[qQ,length_singleton];omega) (by omega) (λa m=>(mem_append.mp m).elim (ha' a) λz=>mem_singleton.mp z▸hy) h
  ·(walk_at "w");exact h _ _ hb hk ha'
theorem zPA (ea:J.fns[na]?=some (("comes_ahead":Str),Fa))(ha:zIG Fa):zQd (dFun 3 6 (evSs J (zRh na))):=λxs ys r n Q hx hy hn hl h=>by
 (walk_at "d");unfold zRh;(walk_at "st");(walk_at "w");refine zCg (λzs G=>∃ (acc:List D) (k:Nat) (o:Option (D×Bool)),(∀ z∈zs,isP n z)/\(∀ a∈acc,isP n a)/\k<=ys.length/\acc.length+zs.length+(ys.length - k)<=xs.length+ys.length/\G=[some (.lst xs,false),some (.lst ys,false),some (.bl r,false),some (.lst acc,true),some (.int (k:Int),false),o]) ?_ ?_ _ _ ⟨[],0,none,hx,by simp,by omega,by simp,rfl⟩
 .rintro x zs G ⟨acc,k,o,hz,hA,hk,hb,rfl⟩;rw[xJ] at hb;have hxP:=hz x xq;obtain⟨p,rfl,pb⟩:=hz x xq;refine⟨_,rfl,?_⟩;(walk_at "s");unfold zRg;refine zAF (zOF (zIa ea ha hy pb hn (B:=xs.length+ys.length - zs.length - 1) (by omega) _ acc k rfl (by omega) hk hA λacc k hb hk hA=>k_nx ?_));have last:∀ {Q:Out->Prop} (j:Nat),Q (.nx [some (.lst xs,false),some (.lst ys,false),some (.bl r,false),some (.lst (acc++[ptD p]),true),some (.int (j:Int),false),some (ptD p,false)])->EvP (evSs J (.cons (.app 3 (.var 5)) .nil) [some (.lst xs,false),some (.lst ys,false),some (.bl r,false),some (.lst acc,true),some (.int (j:Int),false),some (ptD p,false)]) Q:=λj q=>by
   refine zAF (zHw (xs:=acc) (i:=3) rfl (by omega) ?_);(walk_at "w");exact q
  have hA2:∀ a∈acc++[ptD p],isP n a:=λa m=>(mem_append.mp m).elim (hA a) λz=>mem_singleton.mp z▸hxP
  have hz2:∀ z∈zs,isP n z:=λz m=>hz z (qJ _ m)
  have la:(acc++[ptD p]).length=acc.length+1:=by simp
  (walk_at "w");refine zA6 (λc=>?_) λc=>?_
  .obtain ⟨y,my,ey⟩:=zFj (ds:=ys) (k:=k) (by omega) c;obtain⟨p2,rfl,b2⟩:=hy y my;(walk_at "w");refine zA3 ey ?_;(walk_at "w");refine c_eq (zFc (zH1 p2) (zH1 p) (by decide)) ?_;(walk_at "w");refine zFe (λ_=>?_) λ_=>?_
   .refine zAF (zK5 (i:=4) rfl ?_);(walk_at "e");refine zBZ (k_nx ?_);rw[show (k:Int)+1=((k+1:Nat):Int) by omega];exact last _ ⟨_,k+1,_,hz2,hA2,by omega,by omega,rfl⟩
   .exact zBZ (k_nx (last _ ⟨_,k,_,hz2,hA2,hk,by omega,rfl⟩))
  ·(walk_at "e");exact zBZ (k_nx (last _ ⟨_,k,_,hz2,hA2,hk,by omega,rfl⟩))
 .rintro G ⟨acc,k,o,hz,hA,hk,hb,rfl⟩;refine k_nx ?_;(walk_at "w");rw[zH6];have e:(acc++ys.drop k).length<=xs.length+ys.length:=by simp at hb ⊢;omega
  refine zNQ (by rw[<- qQ];omega) ?_;(walk_at "w");exact h _ e λd m=>(mem_append.mp m).elim (hA d) λz=>hy d (List.mem_of_mem_drop z)
end
noncomputable def zJC (nm nu nl nx:Nat):S:=.cons (.set 3 (.ix (.var 2) (.int 0))) (.cons (.set 4 (.ix (.var 2) (.int 1))) (.cons (.set 5 (.call nm "made_one" (.cons (.call nu "upright_crossings" (.cons (.var 2) (.cons (.var 0) .nil))) (.cons (.call nl "level_crossings" (.cons (.var 2) (.cons (.var 1) .nil))) (.cons (.call nx "under" (.cons (.ix (.var 3) (.int 0)) (.cons (.ix (.var 4) (.int 0)) .nil))) .nil))))) (.frz 4 (.frz 3 (.cons (.ret (.bin .Add (.bin .Add (.lst (.cons (.var 3) .nil)) (.var 5)) (.lst (.cons (.var 4) .nil)))) .nil)))))
def zLd (F:List D->Option R):Prop:=∀ (w h:Nat) (s:Pt×Pt) (n:Nat) (Q:R->Prop),PB n s.1->PB n s.2->8*n+20<=10000000->w<=100->h<=100->(∀ ds,1<=ds.length->ds.length<=w+h+4->(∀ d∈ds,isP (8*n+20) d)->Q (.lst ds,.fr))->EvP (F [.int w,.int h,zFw s]) Q
theorem zLx (em:J.fns[nm]?=some (("made_one":Str),Fm))(eu:J.fns[nu]?=some (("upright_crossings":Str),Fu))(el:J.fns[nl]?=some (("level_crossings":Str),Fl))(ex:J.fns[nx]?=some (("under":Str),Fx))
  (hm:zQd Fm) (hu:CrF Fu) (hl:CrF Fl) (hx:zEy Fx):zLd (dFun 3 6 (evSs J (zJC nm nu nl nx))):=λw h s n Q h1 h2 hn hw hh hQ=>by
 (walk_at "d");unfold zJC;(walk_at "st");(walk_at "w");refine hu s w n _ h1 h2 hn hw λxs l1 p1=>?_
 (walk_at "w");refine hl s h n _ h1 h2 hn hh λys l2 p2=>?_
 (walk_at "w");refine zCS hx h1.x h2.x (by omega) ?_;(walk_at "w");refine hm xs ys _ _ _ p1 p2 hn (by omega) λzs l3 p3=>?_
 (walk_at "w");refine zNQ (by rw[length_singleton];omega) ?_;(walk_at "w");refine zNQ (by simp;omega) ?_;(walk_at "w");refine hQ _ (by simp) (by simp;omega) λd m=>?_
 simp only[mem_append,mem_singleton] at m;rcases m with (rfl | m) | rfl
 .exact ⟨_,rfl,h1.mono (by omega)⟩
 .exact p3 d m
 .exact ⟨_,rfl,h2.mono (by omega)⟩
noncomputable def pcB (nw nm:Nat):S:=.cons (.set 2 (.call nw "whole_part" (.cons (.call nm "middle" (.cons (.ix (.var 0) (.int 0)) (.cons (.ix (.var 1) (.int 0)) .nil))) .nil))) (.cons (.set 3 (.call nw "whole_part" (.cons (.call nm "middle" (.cons (.ix (.var 0) (.int 1)) (.cons (.ix (.var 1) (.int 1)) .nil))) .nil))) (.cons (.ret (.tup (.cons (.max (.var 2) (.neg (.int 1))) (.cons (.var 3) (.cons (.var 0) (.cons (.var 1) .nil)))))) .nil))
abbrev zEU (c r:Int) (p q:Pt):D:=.tup [.int c,.int r,ptD p,ptD q]
def PcF (F:List D->Option R):Prop:=∀ (p q:Pt) (n:Nat) (Q:R->Prop),PB n p->PB n q->n<=10000000->(∀ c r:Int,-1<=c->Q (zEU c r p q,.cl))->EvP (F [ptD p,ptD q]) Q
theorem zTg (ew:J.fns[nw]?=some (("whole_part":Str),Fw))(em:J.fns[nm]?=some (("middle":Str),Fm))(hw:WpF Fw)(hm:MidF Fm):PcF (dFun 2 4 (evSs J (pcB nw nm))):=λp q n Q h1 h2 hn h=>by
 (walk_at "d");unfold pcB;(walk_at "st");(walk_at "w");refine hm _ _ n _ h1.x h2.x hn λ_ _=>?_
 (walk_at "w");refine hw _ _ λc=>?_
 (walk_at "w");refine hm _ _ n _ h1.y h2.y hn λ_ _=>?_
 (walk_at "w");refine hw _ _ λr=>?_
 (walk_at "w");exact h _ _ (by omega)
noncomputable def onB:S:=.cons (.ret (.andl (.cons (.cmp .Lt (.ix (.var 2) (.int 0)) (.var 0)) (.cons (.chn .LtE .Lt (.int 0) (.ix (.var 2) (.int 1)) (.var 1)) .nil)))) .nil
def OnF (F:List D->Option R):Prop:=∀ (w h c r:Int) (p q:Pt) (Q:R->Prop),(∀ b,(b=true->c < w/\0<=r/\r < h)->Q (.bl b,.cl))->EvP (F [.int w,.int h,zEU c r p q]) Q
theorem zTh :OnF (dFun 3 3 (evSs J onB)):=λw h c r p q Q hQ=>by
 (walk_at "d");unfold onB;(walk_at "st");(walk_at "w");refine zA6 (λz1=>?_) λz1=>?_
 .refine zHC (zSs ?_);(walk_at "w");refine zA6 (λz2=>?_) λz2=>?_
  ·(walk_at "w");exact hQ _ λz=>⟨z1,z2,of_decide_eq_true z⟩
  ·(walk_at "w");exact hQ _ λz=>nomatch z
 ·(walk_at "w");exact hQ _ λz=>nomatch z
noncomputable def zGo (ns np no:Nat):S:=.cons (.ife (.cmp .Eq (.ix (.var 2) (.int 0)) (.ix (.var 2) (.int 1))) (.cons (.ret (.lst .nil)) .nil) .nil) (.cons (.set 3 (.call ns "stops" (.cons (.var 0) (.cons (.var 1) (.cons (.var 2) .nil))))) (.frz 3 (.cons (.setC 4 (.comp1 5 [] "k" (.r1 (.bin .Sub (.len (.var 3)) (.int 1))) .nil (.call np "piece_between" (.cons (.ix (.var 3) (.var 5)) (.cons (.ix (.var 3) (.bin .Add (.var 5) (.int 1))) .nil))))) (.frz 4 (.cons (.ret (.comp1 5 [] "part" (.it (.var 4)) (.cons (.call no "counts_on" (.cons (.var 0) (.cons (.var 1) (.cons (.var 5) .nil)))) .nil) (.var 5))) .nil)))))
def isC (n:Nat)(d:D):Prop:=∃ (c r:Int) (p q:Pt),d=zEU c r p q/\-1<=c/\PB n p/\PB n q
def isZ (n w h:Nat)(d:D):Prop:=∃ (c r:Int) (p q:Pt),d=zEU c r p q/\-1<=c/\c < w/\0<=r/\r < h/\PB n p/\PB n q
def zHP (F:List D->Option R):Prop:=∀ (w h:Nat) (s:Pt×Pt) (n:Nat) (Q:R->Prop),PB n s.1->PB n s.2->8*n+20<=10000000->w<=100->h<=100->(∀ ds,ds.length<=w+h+4->(∀ d∈ds,isZ (8*n+20) w h d)->Q (.lst ds,.fr))->EvP (F [.int w,.int h,zFw s]) Q
theorem zJY (es:J.fns[ns]?=some (("stops":Str),Fs))(ep:J.fns[np]?=some (("piece_between":Str),Fp))(eo:J.fns[no]?=some (("counts_on":Str),Fo))(hs:zLd Fs)(hp:PcF Fp)(ho:OnF Fo) :
  zHP (dFun 3 5 (evSs J (zGo ns np no))):=λw h s n Q h1 h2 hn hw hh hQ=>by
 (walk_at "d");unfold zGo;(walk_at "st");refine zAF ?_;(walk_at "e");refine c_eq (zFc (zH1 _) (zH1 _) (by decide)) ?_;(walk_at "e");refine zFe (λ_=>?_) λ_=>?_
 ·(walk_at "w");exact hQ [] (zero_le _) (by simp)
 refine zBZ (k_nx (zAF ?_));(walk_at "e");refine hs w h s n _ h1 h2 hn hw hh λl l0 l1 l2=>?_
 (walk_at "e");refine zHs rfl ?_;(walk_at "s");refine zAF (zHF (zCV (zIM ?_)));(walk_at "e");refine⟨by omega,by rw[zAY];omega,?_⟩;refine zEp (n:=5) (base:=[_,_,_,_,_]) rfl (isC (8*n+20)) _ _ (λy hy=>⟨true,rfl,λ_=>?_⟩) λps y1 _ y2=>?_
 .obtain ⟨k,rfl,k0,k1⟩:=zFI hy;(walk_at "c");obtain⟨a,ma,ea⟩:=zFj (ds:=l) k0 (by omega);obtain⟨b,mb,eb⟩:=zFj (ds:=l) (k:=k+1) (by omega) (by omega);obtain⟨p,rfl,pb⟩:=l2 a ma;obtain⟨q,rfl,qb⟩:=l2 b mb;(walk_at "w");refine zA3 ea ?_;(walk_at "w");refine zA3 eb ?_;(walk_at "w");refine hp _ _ _ _ pb qb (by omega) λc r c0=>?_
  (walk_at "w");exact⟨c,r,p,q,rfl,c0,pb,qb⟩
 rw[zAY] at y1;(walk_at "e");refine zHs rfl ?_;(walk_at "s");refine zAF (zBS (zCV (zGa ?_)));(walk_at "e");refine⟨by omega,?_⟩;refine zEp (n:=5) (base:=[_,_,_,_,_]) rfl (isZ (8*n+20) w h) _ _ (λy hy=>as_b ?_) λzs z1 _ z2=>?_
 .obtain ⟨c,r,p,q,rfl,c0,pb,qb⟩:=y2 y hy;(walk_at "c");(walk_at "w");refine ho _ _ _ _ _ _ _ λb hb=>?_
  (walk_at "w");intro z;obtain⟨c1,r0,r1⟩:=hb z;(walk_at "w");exact⟨c,r,p,q,rfl,c0,c1,r0,r1,pb,qb⟩
 ·(walk_at "w");exact hQ _ (by omega) z2
noncomputable def rsD (qs:List Rat):D:=.tup (qs.map ratD)
noncomputable def lowL:S:=.cons (.set 4 (.bin .Mod (.var 2) (.var 3))) (.frz 3 (.cons (.set 2 (.var 3)) (.cons (.set 3 (.var 4)) .nil)))
noncomputable def lowB:S:=.cons (.set 2 (.abs (.var 0))) (.cons (.set 3 (.var 1)) (.cons (.whl (.cmp .Gt (.var 3) (.int 0)) lowL) (.cons (.ret (.tup (.cons (.bin .FloorDiv (.var 0) (.var 2)) (.cons (.bin .FloorDiv (.var 1) (.var 2)) .nil)))) .nil)))
def LowF (F:List D->Option R):Prop:=∀ (t b:Int) (Q:R->Prop),0 < b->Q (ratD (Rat.divInt t b),.cl)->EvP (F [.int t,.int b]) Q
theorem zMN :∀ (n:Nat) (a b:Int) (r:Option (D×Bool)),b.toNat<=n->0<=a->0<=b->(∀ r',Q (.nx [x0,x1,some (.int (Int.gcd a b:Int),false),some (.int 0,false),r'])) ->
  EvP (zBH (asB (evE J (.cmp .Gt (.var 3) (.int 0)))) (evSs J lowL) [x0,x1,some (.int a,false),some (.int b,false),r]) Q:=by
 intro n
 induction n with
 | zero =>
  intro a b r hn ha hb q;have e:b=0:=by omega
  subst e;refine zBs (as_b ?_);(walk_at "w");refine zDV (Int.lt_irrefl 0) ?_;have:(Int.gcd a 0:Int)=a:=by rw[Int.gcd_zero_right];omega
  rw[this] at q;exact q r
 | succ n ih =>
  intro a b r hn ha hb q;by_cases e:b=0
  .subst e;refine zBs (as_b ?_);(walk_at "w");refine zDV (Int.lt_irrefl 0) ?_;have:(Int.gcd a 0:Int)=a:=by rw[Int.gcd_zero_right];omega
   rw[this] at q;exact q r
  .refine zBs (as_b ?_);(walk_at "w");refine zDU (show 0 < b by omega) ?_;unfold lowL;(walk_at "w");refine zEG e ?_;(walk_at "w");have h1:=Int.fmod_nonneg_of_pos a (show 0 < b by omega);have h2:=Int.fmod_lt_of_pos a (show 0 < b by omega);refine ih b (a.fmod b) (some (.int (a.fmod b),false)) (by omega) hb h1 λr'=>?_
   rw[DM.zHp ha (by omega)];exact q r'
theorem zRp :LowF (dFun 2 5 (evSs J lowB)):=λt b Q hb h=>by
 (walk_at "d");unfold lowB;(walk_at "st");(walk_at "w");refine zMN _ _ _ none (le_refl _) (Int.natCast_nonneg _) (Int.le_of_lt hb) λr'=>?_
 have eg:((Int.gcd (t.natAbs:Int) b:Nat):Int)=DM.msr t b:=by
  unfold DM.msr;rw[if_neg (by omega)];unfold Int.gcd;simp only[Int.natAbs_natCast]
 rw[eg];refine k_nx ?_;have hz:b≠0:=by omega
 (walk_at "w");refine zEH (DM.zJ3 hz) ?_;(walk_at "w");refine zEH (DM.zJ3 hz) ?_;(walk_at "w");rw[DM.zGv hz,DM.zJ5 hz];exact h
section
variable {J:Gm}{nr:Nat}{Fr:List D->Option R}
theorem zMM (er:J.fns[nr]?=some (("_law_low":Str),Fr))(hr:LowF Fr):zEM (dFun 2 2 (evSs J (zIR "_law_low" nr))):=λp q m n Q hp hq l h=>by
 (walk_at "d");unfold zIR;refine zAF (zBS (zAI er ?_));(walk_at "w");refine zBD (zBQ hp.num hq.den l) ?_;(walk_at "w");refine zBD (zBQ hq.num hp.den (by omega)) ?_;(walk_at "w");refine zBD (zBQ hp.den hq.den l) ?_;(walk_at "w");refine hr _ _ _ (Int.mul_pos (zLH p) (zLH q)) ?_;rw[<- zLa];(walk_at "w");exact h
end
theorem zOI (qs:List Rat):DOk 2 (rsD qs):=zHH λd h=>by
 obtain⟨q,_,rfl⟩:=mem_map.mp h;exact zD8 q
noncomputable def zKf (nw:Nat):S:=.cons (.ife (.orl (.cons (.not (.isi .tuple (.var 2))) (.cons (.cmp .NotEq (.len (.var 2)) (.int 2)) .nil))) (.cons (.ret (.bl false)) .nil) .nil) (.cons (.for1 3 (.it (.var 2)) (.cons (.ife (.not (.call nw "_law_whole" (.cons (.var 3) .nil))) (.cons (.ret (.bl false)) .nil) .nil) .nil)) .nil)
noncomputable def zKg (nw:Nat):S:=.cons (.ife (.orl (.cons (.not (.isi .tuple (.var 0))) (.cons (.cmp .NotEq (.len (.var 0)) (.len (.var 1))) .nil))) (.cons (.ret (.bl false)) .nil) .nil) (.cons (.for1 2 (.it (.var 0)) (zKf nw)) (.cons (.ret (.cmp .Eq (.var 0) (.var 1))) .nil))
def zOQ (F:List D->Option R):Prop:=∀ (qs:List Rat) (Q:R->Prop),Q (.bl true,.cl)->EvP (F [rsD qs,rsD qs]) Q
theorem zEm (ew:J.fns[nw]?=some (("_law_whole":Str),Fw))(hw:zLb Fw):∀ (qs:List Rat) (a b:Option (D×Bool)),(∀ a b,Q (.nx [x0,x1,a,b])) ->
  EvP (forD (tg1 2) (evSs J (zKf nw)) (qs.map ratD) [x0,x1,a,b]) Q
 | [],a,b,h=>zKe (h a b)
 | q::qs,a,b,h=>by
  rw[map_cons];refine zFa rfl ?_;(walk_at "s");unfold zKf;(walk_at "w");refine zDU rfl ?_;(walk_at "w");refine w_tu (ds:=[.int q.num,.int (q.den:Int)]) ?_;refine zFa rfl ?_;(walk_at "s");(walk_at "w");refine hw _ _ ?_;(walk_at "w");refine hw _ _ ?_;(walk_at "w");exact zEm ew hw qs _ _ h
theorem zMr (ew:J.fns[nw]?=some (("_law_whole":Str),Fw))(hw:zLb Fw):zOQ (dFun 2 4 (evSs J (zKg nw))):=λqs Q h=>by
 (walk_at "d");have eo:=zFc (zOI qs) (zOI qs) (by decide);unfold zKg;unfold rsD at eo ⊢;(walk_at "st");(walk_at "w");refine zDU rfl ?_;(walk_at "w");refine zEm ew hw qs none none λa b=>?_
 refine k_nx ?_;(walk_at "w");refine c_eq eo ?_;rw[zHy];(walk_at "w");exact h
theorem zCs (h:EvP (evE J el (G.set n (some (z,false)))) λr=>r.2≠.dt/\EvP (zCa (tg1 n) (evC J .nil) (evE J el) zs (G.set n (some (z,false)))) λys=>Q (r.1::ys)):EvP (zCa (tg1 n) (evC J .nil) (evE J el) (z::zs) G) Q:=by
 obtain⟨r,e,nd,ys,e2,q⟩:=h;refine⟨_,?_,q⟩;show (tg1 n z G).bind _=_;unfold tg1 at e2 ⊢;rw[ zDK];rw[zDK] at e2
 simp_all
theorem zOL (h:Q []):EvP (zCa (tg1 n) (evC J .nil) (evE J el) [] G) Q:=⟨_,rfl,h⟩
noncomputable def zLQ (n1 n0:Nat):S:=.cons (.ret (.tup (.cons (.glob n1 "ONE") (.cons (.glob n0 "NOUGHT") (.cons (.glob n0 "NOUGHT") (.cons (.glob n0 "NOUGHT") (.cons (.glob n0 "NOUGHT") .nil))))))) .nil
def zOR (F:List D->Option R):Prop:=∀ (Q:R->Prop),Q (rsD [1,0,0,0,0],.cl)->EvP (F []) Q
theorem zNK (e1:J.cs[n1]?=some (("ONE":Str),.tup [.int 1,.int 1]))(e0:J.cs[n0]?=some (("NOUGHT":Str),.tup [.int 0,.int 1])):zOR (dFun 0 0 (evSs J (zLQ n1 n0))):=λQ h=>by
 (walk_at "d");unfold zLQ;(walk_at "w");exact h
noncomputable def zQ2 (nm n1:Nat):S:=.cons (.ret (.call nm "minus" (.cons (.glob n1 "ONE") (.cons (.var 0) .nil)))) .nil
def zLh (F:List D->Option R):Prop:=∀ (q:Rat) (n:Nat) (Q:R->Prop),RB n q->n<=50000000->Q (ratD (1 - q),.cl)->EvP (F [ratD q]) Q
theorem zOg (em:J.fns[nm]?=some (("minus":Str),Fm))(e1:J.cs[n1]?=some (("ONE":Str),.tup [.int 1,.int 1]))(hm:zE2 Fm):zLh (dFun 1 1 (evSs J (zQ2 nm n1))):=λq n Q hq l h=>by
 refine zP4 rfl (by decide) (zAF (zBS (zAI em (zAG (zCr e1 ?_)))));rw[zOv];(walk_at "w");exact h
noncomputable def zO6 (nt:Nat):S:=.cons (.ret (.tupl (.comp1 2 [] "part" (.it (.var 0)) .nil (.call nt "times" (.cons (.var 2) (.cons (.var 1) .nil)))))) .nil
def zHQ (F:List D->Option R):Prop:=∀ (d:D) (qs:List Rat) (r:Rat) (m n:Nat) (Q:R->Prop),(d=rsD qs\/d=.lst (qs.map ratD))->qs.length<=100->(∀ q∈qs,RB m q)->RB n r->m+n<=60000000->Q (rsD (qs.map (·*r)),.cl)->EvP (F [d,ratD r]) Q
theorem zO5 (et:J.fns[nt]?=some (("times":Str),Ft))(ht:zDX Ft):zHQ (dFun 2 2 (evSs J (zO6 nt))):=λd qs r m n Q hd hl hq hr l h=>by
 (walk_at "d");unfold zO6;(walk_at "st");refine zAF (zBS (zKn (zCV (zGa (zAH rfl ?_)))));refine⟨qs.map ratD,(λz=>nomatch z),?_,?_⟩
 .rcases hd with rfl | rfl
  .exact .inr rfl
  .exact .inl rfl
 refine⟨by rw[qy];omega,?_⟩;refine zLL (J:=J) (base:=[some (d,false),some (ratD r,false)]) rfl ratD (λq=>ratD (q*r)) qs none ?_ ?_
 .intro q hm;have hq':=hq q hm;refine zAI et ?_;show EvP (evEs J _ [some (d,false),some (ratD r,false),some (ratD q,false)]) _;(walk_at "w")
  rfl
 .refine zQi ?_;(walk_at "w");unfold rsD at h;rw[map_map] at h;exact h
noncomputable def zOc (nm np:Nat):S:=.cons (.set 2 (.call nm "multiplied" (.cons (.var 1) (.cons (.ix (.var 0) (.int 0)) .nil)))) (.cons (.ret (.tupl (.comp1 3 [] "k" (.r1 (.int 4)) .nil (.call np "plus" (.cons (.ix (.var 0) (.bin .Add (.int 1) (.var 3))) (.cons (.ix (.var 2) (.var 3)) .nil)))))) .nil)
structure Fm where
 k:Rat
 a:Rat
 r:Rat
 g:Rat
 b:Rat
structure Gr where
 a:Rat
 r:Rat
 g:Rat
 b:Rat
noncomputable def fmD (f:Fm):D:=rsD [f.k,f.a,f.r,f.g,f.b]
noncomputable def grD (x:Gr):D:=rsD [x.a,x.r,x.g,x.b]
structure FB (n:Nat)(f:Fm):Prop where
 k:RB n f.k
 a:RB n f.a
 r:RB n f.r
 g:RB n f.g
 b:RB n f.b
structure GB (n:Nat)(x:Gr):Prop where
 a:RB n x.a
 r:RB n x.r
 g:RB n x.g
 b:RB n x.b
theorem FB.mono (h:FB m f)(l:m<=n):FB n f:=⟨h.k.mono l,h.a.mono l,h.r.mono l,h.g.mono l,h.b.mono l⟩
noncomputable def sn (f:Fm)(x:Gr):Gr:=⟨f.a+x.a*f.k,f.r+x.r*f.k,f.g+x.g*f.k,f.b+x.b*f.k⟩
def zQb (F:List D->Option R):Prop:=∀ (f:Fm) (x:Gr) (m n:Nat) (Q:R->Prop),FB m f->GB n x->m+n<=10000000->Q (grD (sn f x),.cl)->EvP (F [fmD f,grD x]) Q
theorem zOb {Fm:List D->Option R}(em:J.fns[nm]?=some (("multiplied":Str),Fm))(ep:J.fns[np]?=some (("plus":Str),Fp))(hm:zHQ Fm)(hp:zEM Fp):zQb (dFun 2 3 (evSs J (zOc nm np))):=λf x m n Q hf hx l h=>by
 (walk_at "d");unfold zOc;(walk_at "st");refine zAF (zD5 (zAI em ?_));(walk_at "w");refine zCp (d:=ratD f.k) rfl ?_;(walk_at "w");refine hm (grD x) [x.a,x.r,x.g,x.b] f.k n m _ (.inl rfl) (zzb rfl) ?_ hf.k (by omega) ?_
 .intro q hq;simp only[mem_cons,not_mem_nil,or_false] at hq;rcases hq with rfl | rfl | rfl | rfl
  .exact hx.a
  .exact hx.r
  .exact hx.g
  .exact hx.b
 (walk_at "w");refine zKn (zCV (zIM ?_));(walk_at "w");refine⟨by decide,?_⟩;refine⟨by decide,?_⟩;show EvP (zCa (tg1 3) (evC J .nil) _ [.int 0,.int 1,.int 2,.int 3] [some (fmD f,false),some (grD x,false),some (rsD [x.a*f.k,x.r*f.k,x.g*f.k,x.b*f.k],false),none]) _;have step:∀ (i j:Int) (p q:Rat) (o:Option (D×Bool)) (Q:R->Prop),atI ([f.k,f.a,f.r,f.g,f.b].map ratD) (1+i)=some (ratD p)->atI ([x.a*f.k,x.r*f.k,x.g*f.k,x.b*f.k].map ratD) i=some (ratD q)->RB m p->RB (n+m) q->Q (ratD (p+q),.cl) ->
   EvP (evE J (.call np "plus" (.cons (.ix (.var 0) (.bin .Add (.int 1) (.var 3))) (.cons (.ix (.var 2) (.var 3)) .nil))) [some (fmD f,false),some (grD x,false),some (rsD [x.a*f.k,x.r*f.k,x.g*f.k,x.b*f.k],false),some (.int i,false)]) Q:=by
  intro i j p q o Q e1 e2 b1 b2 hQ;refine zAI ep ?_;(walk_at "w");refine zCp e1 ?_;(walk_at "w");refine zCp e2 ?_;(walk_at "w");exact hQ
 refine zCs ?_;(walk_at "s");refine step 0 0 f.a (x.a*f.k) none _ rfl rfl hf.a (zA0 hx.a hf.k) ?_;refine n_cl (zCs ?_);(walk_at "s");refine step 1 0 f.r (x.r*f.k) none _ rfl rfl hf.r (zA0 hx.r hf.k) ?_;refine n_cl (zCs ?_);(walk_at "s");refine step 2 0 f.g (x.g*f.k) none _ rfl rfl hf.g (zA0 hx.g hf.k) ?_;refine n_cl (zCs ?_);(walk_at "s");refine step 3 0 f.b (x.b*f.k) none _ rfl rfl hf.b (zA0 hx.b hf.k) ?_;refine n_cl (zOL ?_);refine zQi ?_;(walk_at "w");exact h
noncomputable def inkD (r g b:Int):D:=.tup [.int r,.int g,.int b]
noncomputable def inkB (nr nm:Nat):S:=.cons (.ret (.bin .Add (.tup (.cons (.call nr "rest_of" (.cons (.var 0) .nil)) (.cons (.var 0) .nil))) (.call nm "multiplied" (.cons (.comp1 2 [] "part" (.it (.var 1)) .nil (.tup (.cons (.var 2) (.cons (.int 1) .nil)))) (.cons (.var 0) .nil))))) .nil
noncomputable def zId (s:Rat)(r g b:Int):Fm:=⟨1 - s,s,(r:Rat)*s,(g:Rat)*s,(b:Rat)*s⟩
theorem zEi {i:Int}(h0:0<=i)(h1:i<=255):RB 8 (i:Rat):=zHX (zDQ (k:=255) (by omega) (by simp)) (by simp)
def InkF (F:List D->Option R):Prop:=∀ (s:Rat) (r g b:Int) (n:Nat) (Q:R->Prop),RB n s->n<=10000000->(0<=r/\r<=255)->(0<=g/\g<=255)->(0<=b/\b<=255)->Q (fmD (zId s r g b),.cl)->EvP (F [ratD s,inkD r g b]) Q
theorem b_tt (l:(x::xs).length+(y::ys).length<=10000)(h:Q (.tup ((x::xs)++(y::ys)),.cl)):EvP (binD .Add (.tup (x::xs)) (.tup (y::ys))) Q:=⟨_,if_pos l,h⟩
theorem zR4 {Fm:List D->Option R}(er:J.fns[nr]?=some (("rest_of":Str),Fr))(em:J.fns[nm]?=some (("multiplied":Str),Fm))(hr:zLh Fr)(hm:zHQ Fm):InkF (dFun 2 2 (evSs J (inkB nr nm))):=λs r g b n Q hs l h1 h2 h3 h=>by
 (walk_at "d");unfold inkB inkD;(walk_at "st");(walk_at "w");refine hr s n _ hs (by omega) ?_;(walk_at "w");refine zCs ?_;simp only[mask,cons_append,nil_append,List.set_cons_zero,List.set_cons_succ];(walk_at "w");refine zCs ?_;(walk_at "s");(walk_at "w");refine zCs ?_;(walk_at "s");(walk_at "w");refine zOL ?_;(walk_at "w");refine⟨(λz=>nomatch z),?_⟩;(walk_at "w");refine hm _ [(r:Rat),(g:Rat),(b:Rat)] s 8 n _ (.inr rfl) (zzb rfl) ?_ hs (by omega) ?_
 .intro q hq;simp only[mem_cons,not_mem_nil,or_false] at hq;rcases hq with rfl | rfl | rfl
  .exact zEi h1.1 h1.2
  .exact zEi h2.1 h2.2
  .exact zEi h3.1 h3.2
 (walk_at "w");refine b_tt (zzb rfl) ?_;(walk_at "w");exact h
theorem zSl (hs:RB n s)(h1:0<=r/\r<=255)(h2:0<=g/\g<=255)(h3:0<=b/\b<=255):FB (n+8) (zId s r g b):=by
 refine⟨(zDN zCc hs).mono (by omega),hs.mono (by omega),?_,?_,?_⟩
 .exact (zA0 (zEi h1.1 h1.2) hs).mono (by omega)
 .exact (zA0 (zEi h2.1 h2.2) hs).mono (by omega)
 .exact (zA0 (zEi h3.1 h3.2) hs).mono (by omega)
noncomputable def zPM (nt ns:Nat):S:=.cons (.ret (.bin .Add (.tup (.cons (.call nt "times" (.cons (.ix (.var 0) (.int 0)) (.cons (.ix (.var 1) (.int 0)) .nil))) .nil)) (.call ns "seen" (.cons (.var 0) (.cons (.sl (.var 1) (.cons (.int 1) .nil) .nil) .nil))))) .nil
noncomputable def jn (f g:Fm):Fm:=⟨f.k*g.k,f.a+g.a*f.k,f.r+g.r*f.k,f.g+g.g*f.k,f.b+g.b*f.k⟩
theorem zUG (hf:FB m f)(hg:FB n g):FB (m+(n+m)+1) (jn f g) :=
 ⟨(zA0 hf.k hg.k).mono (by omega),zCD hf.a (zA0 hg.a hf.k),zCD hf.r (zA0 hg.r hf.k),zCD hf.g (zA0 hg.g hf.k),zCD hf.b (zA0 hg.b hf.k)⟩
def zTI (F:List D->Option R):Prop:=∀ (f g:Fm) (m n:Nat) (Q:R->Prop),FB m f->FB n g->m+n<=10000000->Q (fmD (jn f g),.cl)->EvP (F [fmD f,fmD g]) Q
theorem fm_k (h:Q (ratD f.k,.cl)):EvP (ixD (fmD f) (.int 0)) Q:=zCp rfl h
theorem zHA (e:G[i]?=some (some (fmD f,false)))(h:Q (rsD [f.a,f.r,f.g,f.b],.cl)):EvP (evE J (.sl (.var i) (.cons (.int 1) .nil) .nil) G) Q:=by
 refine zSn (zAH e (zK6 (zBp ⟨1,rfl,zOG ?_⟩)));refine⟨[ratD f.k,ratD f.a,ratD f.r,ratD f.g,ratD f.b],rfl,?_,h⟩;show ¬ (HT.sIx 5 0 _=0/\HT.sIx 5 5 none=5)
 decide
theorem zPL (et:J.fns[nt]?=some (("times":Str),Ft))(es:J.fns[ns]?=some (("seen":Str),Fs))(ht:zDX Ft)(hs:zQb Fs):zTI (dFun 2 2 (evSs J (zPM nt ns))):=λf g m n Q hf hg l h=>by
 (walk_at "d");unfold zPM;refine zAF (zBS (zDT (zKo (zAG (zAI et (zAG (zBF (zAH rfl (zBp (fm_k (n_cl (zAG (zBF (zAH rfl (zBp (fm_k (n_cl (zAj ?_))))))))))))))))));refine ht f.k g.k m n _ hf.k hg.k (by omega) ?_;refine n_cl (n_cl (zAj ⟨zzb rfl,?_⟩));refine zAI es (zAG (zAH rfl (n_cl (zAG (zHA rfl (n_cl (zAj ?_)))))));refine hs f ⟨g.a,g.r,g.g,g.b⟩ m n _ hf ⟨hg.a,hg.r,hg.g,hg.b⟩ l ?_;refine n_cl ?_;refine b_tt (zzb rfl) ?_;simp;exact h
noncomputable def mixB (np nr nt nm:Nat):S:=.cons (.ret (.bin .Add (.tup (.cons (.call np "plus" (.cons (.call nr "rest_of" (.cons (.var 1) .nil)) (.cons (.call nt "times" (.cons (.var 1) (.cons (.ix (.var 0) (.int 0)) .nil))) .nil))) .nil)) (.call nm "multiplied" (.cons (.sl (.var 0) (.cons (.int 1) .nil) .nil) (.cons (.var 1) .nil))))) .nil
noncomputable def mx (f:Fm)(t:Rat):Fm:=⟨1 - t+t*f.k,f.a*t,f.r*t,f.g*t,f.b*t⟩
def MixF (F:List D->Option R):Prop:=∀ (f:Fm) (t:Rat) (m n:Nat) (Q:R->Prop),FB m f->RB n t->m+n<=10000000->Q (fmD (mx f t),.cl)->EvP (F [fmD f,ratD t]) Q
theorem zRa (hm:zHQ F)(hf:FB m f)(ht:RB n t)(l:m+n<=10000000)(h:Q (rsD [f.a*t,f.r*t,f.g*t,f.b*t],.cl)):EvP (F [rsD [f.a,f.r,f.g,f.b],ratD t]) Q:=by
 refine hm _ [f.a,f.r,f.g,f.b] t m n _ (.inl rfl) (zzb rfl) ?_ ht (by omega) h;intro q hq
 simp_all
 rcases hq with rfl | rfl | rfl | rfl
 .exact hf.a
 .exact hf.r
 .exact hf.g
 .exact hf.b
theorem zRb {Fm:List D->Option R}(ep:J.fns[np]?=some (("plus":Str),Fp))(er:J.fns[nr]?=some (("rest_of":Str),Fr))(et:J.fns[nt]?=some (("times":Str),Ft))(em:J.fns[nm]?=some (("multiplied":Str),Fm))(hp:zEM Fp)(hr:zLh Fr)(ht:zDX Ft)(hm:zHQ Fm) :
  MixF (dFun 2 2 (evSs J (mixB np nr nt nm))):=λf t m n Q hf htt l h=>by
 (walk_at "d");unfold mixB;refine zAF (zBS (zDT (zKo (zAG (zAI ep (zAG (zAI er (zAG (zAH rfl (n_cl (zAj ?_))))))))))) ;refine hr t n _ htt (by omega) ?_;refine n_cl (n_cl (zAG (zAI et (zAG (zAH rfl (n_cl (zAG (zBF (zAH rfl (zBp (fm_k (n_cl (zAj ?_)))))))))))));refine ht t f.k n m _ htt hf.k (by omega) ?_;refine n_cl (n_cl (zAj ?_));refine hp _ _ (1+n+1) (n+m) _ (zDN zCc htt) (zA0 htt hf.k) (by omega) ?_;refine n_cl (n_cl (zAj ⟨zzb rfl,?_⟩));refine zAI em (zAG (zHA rfl (n_cl (zAG (zAH rfl (n_cl (zAj ?_)))))));refine zRa hm hf htt l ?_;refine n_cl ?_;refine b_tt (zzb rfl) ?_;(walk_at "w");exact h
noncomputable def zLY (nm nr:Nat):S:=.cons (.set 2 (.call nm "multiplied" (.cons (.sl (.var 0) (.cons (.int 1) .nil) .nil) (.cons (.var 1) .nil)))) (.cons (.ret (.bin .Add (.tup (.cons (.call nr "rest_of" (.cons (.ix (.var 2) (.int 0)) .nil)) .nil)) (.var 2))) .nil)
noncomputable def al (f:Fm)(t:Rat):Fm:=⟨1 - f.a*t,f.a*t,f.r*t,f.g*t,f.b*t⟩
def zOS (F:List D->Option R):Prop:=∀ (f:Fm) (t:Rat) (m n:Nat) (Q:R->Prop),FB m f->RB n t->m+n<=10000000->Q (fmD (al f t),.cl)->EvP (F [fmD f,ratD t]) Q
theorem zNR {Fm:List D->Option R}(em:J.fns[nm]?=some (("multiplied":Str),Fm))(er:J.fns[nr]?=some (("rest_of":Str),Fr))(hm:zHQ Fm)(hr:zLh Fr):zOS (dFun 2 3 (evSs J (zLY nm nr))):=λf t m n Q hf ht l h=>by
 (walk_at "d");unfold zLY;(walk_at "st");refine zAF (zD5 (zAI em (zAG (zHA rfl (n_cl (zAG (zAH rfl (n_cl (zAj ?_)))))))));refine zRa hm hf ht l ?_;(walk_at "w");refine zCp (d:=ratD (f.a*t)) rfl ?_;(walk_at "w");refine hr _ (m+n) _ (zA0 hf.a ht) (by omega) ?_;(walk_at "w");refine b_tt (zzb rfl) ?_;(walk_at "w");exact h
noncomputable def clr:Fm:=⟨1,0,0,0,0⟩
theorem zSm:FB 1 clr:=⟨zCc,zBf,zBf,zBf,zBf⟩
end DL
end
section
namespace DL
open PySem Spec PyProof.Rows L2
inductive W where
 | dat (d:D) | loc (n:Nat) | tup (l:List W) | obj (c:Str) (ns:List Str) (l:List W) | ob (c:Str) (ns:List Str) (n:Nat) | di (t:Bool) (n:Nat)
noncomputable instance:Inhabited W:=⟨.dat .non⟩
abbrev Mem:=List (List W)
inductive CK where
 | lst | ins (c:Str) (ns:List Str) | dic (t:Bool)
abbrev CA:=Addr×CK
noncomputable def mutK (ns:List Str):Bool:=ns.any λn=>n==("grounds":Str)||n==("shapes":Str)
noncomputable def mutF (fs:List (Str×V)):Bool:=mutK (fs.map (·.1))
noncomputable def fz1:HO->Option HO
 | .tup xs=>some (.tup xs)
 | .frz o u=>some (.frz o u)
 | .ins C dx fs=>if mutF fs=true then none else some (.ins C dx fs)
 | _=>none
noncomputable def fzH (H:Hp):Hp:=λb=>(H b).bind fz1
theorem zSf (h:fz1 o=some u):u=o:=by
 cases o<;>first | cases h;rfl | cases h | skip
 rename_i C dx fs;replace h:(if mutF fs=true then none else some _)=some u:=h;grind
theorem zCH :fzH H b=some o<->H b=some o/\fz1 o=some o:=by
 unfold fzH;constructor
 .intro h;obtain⟨u,e,h⟩:=bind_some h;have:=zSf h
  simp_all
 .simp_all
theorem zBI :Same (fzH H) H:=λb o h=>(zCH.mp h).1
theorem zOA (h:H a=some (.tup xs)):fzH H a=some (.tup xs):=zCH.mpr ⟨h,rfl⟩
theorem zEl (h:H a=some (.frz o u)):fzH H a=some (.frz o u):=zCH.mpr ⟨h,rfl⟩
theorem zHq (h:H a=some (.ins C dx fs))(n:mutF fs=false):fzH H a=some (.ins C dx fs):=zCH.mpr ⟨h,by show (if mutF fs=true then none else some _)=_;rw[n];rfl⟩
theorem zAi (h:Same H H'):Same (fzH H) (fzH H'):=λb o q=>let ⟨q1,q2⟩:=zCH.mp q;zCH.mpr ⟨h _ _ q1,q2⟩
theorem zKb (h:H a=some u)(h1:fz1 u=none)(h2:fz1 o=none):fzH (upd H a o)=fzH H:=by
 funext b;unfold fzH;by_cases e:b=a
 .subst e;rw[zAP,h];exact h2.trans h1.symm
 .rw [zAN e]
theorem zN9 (h:H a=some (.lst xs)):fzH (upd H a (.lst ys))=fzH H:=zKb h rfl rfl
theorem zH0 (h:zD7 gs=true):mutF gs=false:=by
 unfold zD7 zLD at h;rw[x9,all_eq_true] at h;unfold mutF mutK;rw[List.any_eq_false];intro n hn z;have q:=h.2 n hn;rw[Bool.or_eq_true,beq_iff_eq,beq_iff_eq] at z;rcases z with rfl | rfl
 .exact absurd q (by decide)
 .exact absurd q (by decide)
abbrev Kp (H H':Hp):Prop:=Same (fzH H) (fzH H')
theorem Kp.refl (H:Hp):Kp H H:=Same.refl _
theorem zQt {K:W.Frag}(h:SqT K H a xs):SqT K (fzH H) a xs:=by
 rcases h with (h | ⟨o,h⟩) | h
 .exact .inl (.inl (zOA h))
 .exact .inl (.inr ⟨o,zEl h⟩)
 .exact .inr h
mutual
noncomputable def noL:D->Bool
 | .lst _=>false
 | .tup ds=>noLs ds
 | .lam _ _ ds=>noLs ds
 | .obj _ _ ds=>noLs ds
 | .dct _=>false
 | _=>true
noncomputable def noLs:List D->Bool
 | []=>true
 | d::ds=>noL d&&noLs ds
end
section
variable {K:W.Frag}{H:Hp}
mutual
theorem Den.fz:∀ {d:D} {v:V},noL d=true->Den K H d v->Den K (fzH H) d v
 | .non,_,_,h=>by rw[Den] at h ⊢;exact h
 | .bl _,_,_,h=>by rw[Den] at h ⊢;exact h
 | .int _,_,_,h=>by rw[Den] at h ⊢;exact h
 | .str _,_,_,h=>by rw[Den] at h ⊢;exact h
 | .lst _,_,n,_=>by rw[noL] at n;cases n
 | .tup ds,_,n,h=>by
  rw[noL] at n;rw[Den] at h ⊢;obtain⟨a,vs,h1,h2,h3⟩:=h;exact⟨a,vs,h1,zQt h2,DenL.fz n h3⟩
 | .exc c,_,_,h=>by
  rw[Den] at h ⊢;obtain⟨a,o,u,C,h1,h2,h3⟩:=h;exact⟨a,o,u,C,h1,zEl h2,h3⟩
 | .dct _,_,n,_=>by rw[noL] at n;cases n
 | .lam _ L ds,_,n,h=>by
  rw[noL] at n;rw[Den] at h ⊢;obtain⟨a,vs,h1,⟨cl,pm,c,ctv,oc,u1,g1,g2,g3,g4,g5,g6⟩,h3⟩:=h;exact⟨a,vs,h1,⟨cl,pm,c,ctv,oc,u1,zEl g1,zEl g2,g3,g4,g5,Paired.mapP g6 λ_ _ zy140=>by obtain⟨o,u,k1,k2⟩:=zy140;exact⟨o,u,zEl k1,k2⟩⟩,DenL.fz n h3⟩
 | .obj _ ns ds,_,n,h=>by
  rw[noL] at n;rw[Den] at h ⊢;obtain⟨a,vs,h1,⟨C,dx,gs,g1,g2⟩,h3⟩:=h;exact⟨a,vs,h1,⟨C,dx,gs,zHq g1 (zH0 g2.1),g2⟩,DenL.fz n h3⟩
 | .fn _ _,_,_,h=>by rw[Den] at h ⊢;exact h
theorem DenL.fz:∀ {ds:List D} {vs:List V},noLs ds=true->DenL K H ds vs->DenL K (fzH H) ds vs
 | [],_,_,h=>by rw[DenL] at h ⊢;exact h
 | d::ds,_,n,h=>by
  rw[noLs,x9] at n;rw[DenL] at h ⊢;obtain⟨v,ws,h1,h2,h3⟩:=h;exact⟨v,ws,h1,Den.fz n.1 h2,DenL.fz n.2 h3⟩
end
end
mutual
noncomputable def DenW (K:W.Frag)(H:Hp)(T:List CA):W->V->Prop
 | .dat d,v=>Den K (fzH H) d v
 | .loc n,v=>∃ a,T[n]?=some (a,.lst)/\v=.ref a
 | .ob c ns n,v=>∃ a,T[n]?=some (a,.ins c ns)/\v=.ref a
 | .di t n,v=>∃ a,T[n]?=some (a,.dic t)/\v=.ref a
 | .tup ws,v=>∃ a vs,v=.ref a/\fzH H a=some (.tup vs)/\DenWL K H T ws vs
 | .obj c ns ws,v=>∃ a vs,v=.ref a/\zLi K (fzH H) c ns a vs/\DenWL K H T ws vs
noncomputable def DenWL (K:W.Frag)(H:Hp)(T:List CA):List W->List V->Prop
 | [],vs=>vs=[]
 | w::ws,vs=>∃ v us,vs=v::us/\DenW K H T w v/\DenWL K H T ws us
end
theorem zCk {M:List CA}{n:Nat}{a:CA}(h:T[n]?=some a):(T++M)[n]?=some a:=by rw[getElem?_append_left (zzg h).1];exact h
section
variable {K:W.Frag}{H H':Hp}{T:List CA}
mutual
theorem DenW.monoF (e:zCL (fzH H) (fzH H'))(M:List CA):∀ {w:W} {v:V},DenW K H T w v->DenW K H' (T++M) w v
 | .dat _,_,h=>by rw[DenW] at h ⊢;exact h.monoF e
 | .loc n,_,h=>by
  rw[DenW] at h ⊢;obtain⟨a,h1,h2⟩:=h;exact⟨a,zCk h1,h2⟩
 | .ob c ns n,_,h=>by
  rw[DenW] at h ⊢;obtain⟨a,h1,h2⟩:=h;exact⟨a,zCk h1,h2⟩
 | .di t n,_,h=>by
  rw[DenW] at h ⊢;obtain⟨a,h1,h2⟩:=h;exact⟨a,zCk h1,h2⟩
 | .tup ws,_,h=>by
  rw[DenW] at h ⊢;obtain⟨a,vs,h1,h2,h3⟩:=h;exact⟨a,vs,h1,e _ _ h2 (λ_ _ _ z=>nomatch z),DenWL.monoF e M h3⟩
 | .obj c ns ws,_,h=>by
  rw[DenW] at h ⊢;obtain⟨a,vs,h1,h2,h3⟩:=h;exact⟨a,vs,h1,h2.monoF e,DenWL.monoF e M h3⟩
theorem DenWL.monoF (e:zCL (fzH H) (fzH H'))(M:List CA):∀ {ws:List W} {vs:List V},DenWL K H T ws vs->DenWL K H' (T++M) ws vs
 | [],_,h=>by rw[DenWL] at h ⊢;exact h
 | w::ws,_,h=>by
  rw[DenWL] at h ⊢;obtain⟨v,us,h1,h2,h3⟩:=h;exact⟨v,us,h1,DenW.monoF e M h2,DenWL.monoF e M h3⟩
end
theorem DenW.mono (e:Kp H H')(M:List CA)(h:DenW K H T w v):DenW K H' (T++M) w v:=h.monoF (λb o q _=>e b o q) M
theorem DenWL.mono (e:Kp H H')(M:List CA)(h:DenWL K H T ws vs):DenWL K H' (T++M) ws vs:=h.monoF (λb o q _=>e b o q) M
theorem DenW.keep (e:Kp H H')(h:DenW K H T w v):DenW K H' T w v:=by
 have:=h.mono e []
 simp_all
theorem DenWL.keep (e:Kp H H')(h:DenWL K H T ws vs):DenWL K H' T ws vs:=by
 have:=h.mono e []
 simp_all
theorem DenWL.nil:DenWL K H T [] []:=rfl
theorem DenWL.cons (h:DenW K H T w v)(t:DenWL K H T ws vs):DenWL K H T (w::ws) (v::vs):=⟨v,vs,rfl,h,t⟩
theorem DenWL.length:∀ {ws:List W} {vs:List V},DenWL K H T ws vs->ws.length=vs.length
 | [],_,h=>by rw[DenWL] at h;rw[h];rfl
 | _::ws,_,h=>by
  rw[DenWL] at h;obtain⟨v,us,h1,h2,h3⟩:=h;rw[h1,xJ,xJ,DenWL.length h3]
theorem DenWL.get:∀ {ws:List W} {vs:List V} {i:Nat} {w:W},DenWL K H T ws vs->ws[i]?=some w->∃ v,vs[i]?=some v/\DenW K H T w v
 | [],_,_,_,_,e=>by simp at e
 | x::ws,_,i,w,h,e=>by
  rw[DenWL] at h;obtain⟨v,us,h1,h2,h3⟩:=h;subst h1;cases i with
  | zero=>simp at e;subst e;exact⟨v,by simp,h2⟩
  | succ i =>
   obtain⟨u,q1,q2⟩:=DenWL.get (i:=i) (w:=w) h3 (by simpa using e);exact⟨u,by simpa using q1,q2⟩
theorem DenWL.append:∀ {ws xs:List W} {vs us:List V},DenWL K H T ws vs->DenWL K H T xs us->DenWL K H T (ws++xs) (vs++us)
 | [],_,_,_,h,t=>by rw[DenWL] at h;subst h;exact t
 | _::ws,_,_,_,h,t=>by
  rw[DenWL] at h;obtain⟨v,us',h1,h2,h3⟩:=h;subst h1;exact .cons h2 (DenWL.append h3 t)
theorem DenWL.set (hw:DenW K H T w v):∀ {ws:List W} {vs:List V} (n:Nat),DenWL K H T ws vs->DenWL K H T (ws.set n w) (vs.set n v)
 | [],_,n,h=>by rw[DenWL] at h;subst h;exact .nil
 | _::ws,_,n,h=>by
  rw[DenWL] at h;obtain⟨u,us,h1,h2,h3⟩:=h;subst h1;cases n with
  | zero=>exact .cons hw h3
  | succ n=>exact .cons h2 (DenWL.set hw n h3)
theorem DenWL.dats:∀ {ds:List D} {vs:List V},DenL K (fzH H) ds vs->DenWL K H T (ds.map .dat) vs
 | [],_,h=>by rw[DenL] at h;subst h;exact .nil
 | d::ds,_,h=>by
  rw[DenL] at h;obtain⟨v,us,h1,h2,h3⟩:=h;subst h1;exact .cons (by rw[DenW];exact h2) (DenWL.dats h3)
end
noncomputable def kI:W->Option (List Int)
 | .dat (.int i)=>some [i]
 | .tup [.dat (.int i),.dat (.int j)]=>some [i,j]
 | _=>none
noncomputable def encK:List Int->Option Key
 | [i]=>some (Sum.inl i)
 | _=>none
noncomputable def encT:List Int->Option (List Key)
 | [i,j]=>some [Sum.inl i,Sum.inl j]
 | _=>none
def zEN {a:Type}(K:W.Frag)(H:Hp)(T:List CA)(enc:List Int->Option a):List W->List (a×V)->Prop
 | [],kvs=>kvs=[]
 | w::ws,kvs=>∃ d ks k u v r,w=.tup [d,u]/\kI d=some ks/\enc ks=some k/\kvs=(k,v)::r/\DenW K H T u v/\zEN K H T enc ws r
theorem zEN.monoF {a:Type}{K:W.Frag}{H H':Hp}{T:List CA}{enc:List Int->Option a}(e:zCL (fzH H) (fzH H'))(M:List CA):∀ {ws:List W} {kvs:List (a×V)},zEN K H T enc ws kvs->zEN K H' (T++M) enc ws kvs
 | [],_,h=>h
 | _::ws,_,⟨d,ks,k,u,v,r,h1,h2,h3,h4,h5,h6⟩=>⟨d,ks,k,u,v,r,h1,h2,h3,h4,h5.monoF e M,zEN.monoF e M h6⟩
theorem zEN.mono {a:Type}{K:W.Frag}{H H':Hp}{T:List CA}{enc:List Int->Option a}(e:Kp H H')(M:List CA){ws:List W}{kvs:List (a×V)}(h:zEN K H T enc ws kvs):zEN K H' (T++M) enc ws kvs:=h.monoF (λb o q _=>e b o q) M
def zBU (K:W.Frag)(H:Hp)(T:List CA)(a:Addr)(ws:List W):CK->Prop
 | .lst=>∃ vs,H a=some (.lst vs)/\DenWL K H T ws vs
 | .ins c ns=>∃ C dx gs,H a=some (.ins C dx gs)/\mutF gs=true/\zB6 K c C/\gs.map (·.1)=ns/\DenWL K H T ws (gs.map (·.2))
 | .dic false=>∃ kvs,H a=some (.dK kvs)/\zEN K H T encK ws kvs
 | .dic true=>∃ kvs,H a=some (.dT kvs)/\zEN K H T encT ws kvs
theorem zBU.monoF {K:W.Frag}(h:zBU K H T a ws k)(e:zCL (fzH H) (fzH H'))(q:H' a=H a)(M:List CA):zBU K H' (T++M) a ws k:=by
 match k,h with
 | .lst,⟨vs,h1,h2⟩=>exact⟨vs,q.trans h1,h2.monoF e M⟩
 | .ins c ns,⟨C,dx,gs,h1,h2,h3,h4,h5⟩=>exact⟨C,dx,gs,q.trans h1,h2,h3,h4,h5.monoF e M⟩
 | .dic false,⟨kvs,h1,h2⟩=>exact⟨kvs,q.trans h1,h2.monoF e M⟩
 | .dic true,⟨kvs,h1,h2⟩=>exact⟨kvs,q.trans h1,h2.monoF e M⟩
theorem zBU.mono {K:W.Frag}(h:zBU K H T a ws k)(e:Kp H H')(q:H' a=H a)(M:List CA):zBU K H' (T++M) a ws k:=h.monoF (λb o q _=>e b o q) q M
theorem zBU.some {K:W.Frag}(h:zBU K H T a ws k):∃ o,H a=some o/\fz1 o=none:=by
 match k,h with
 | .lst,⟨vs,h1,h2⟩=>exact⟨_,h1,rfl⟩
 | .ins c ns,⟨C,dx,gs,h1,h2,h3,h4,h5⟩=>exact⟨_,h1,if_pos h2⟩
 | .dic false,⟨kvs,h1,h2⟩=>exact⟨_,h1,rfl⟩
 | .dic true,⟨kvs,h1,h2⟩=>exact⟨_,h1,rfl⟩
structure zAD (K:W.Frag)(H:Hp)(T:List CA)(O:Mem):Prop where
 len:T.length=O.length
 nd:(T.map (·.1)).Nodup
 at_:∀ (n:Nat) ws,O[n]?=some ws->∃ p:CA,T[n]?=some p/\zBU K H T p.1 ws p.2
structure MS (K:W.Frag)(H:Hp)(T:List CA)(O:Mem)(B:St)(G:List (Option W)):Prop where
 cells:zAD K H T O
 len:B.length=G.length
 get:∀ (i:Nat) w,G[i]?=some (some w)->∃ v,B[i]?=some (some v)/\DenW K H T w v
section
variable {K:W.Frag}{H H':Hp}{T:List CA}{O:Mem}
theorem zAD.cell (c:zAD K H T O){n:Nat}(ha:T[n]?=some (a,k)):∃ ws,O[n]?=some ws/\zBU K H T a ws k:=by
 have hn:n < O.length:=by rw[<- c.len];exact(zzg ha).1
 obtain _:=c.at_ n _ (getElem?_eq_getElem hn)
 simp_all
theorem zAD.cell' (c:zAD K H T O){n:Nat}(ha:T[n]?=some (a,k))(hw:O[n]?=some ws):zBU K H T a ws k:=by
 obtain⟨ws',q1,q2⟩:=c.cell ha;grind
theorem zAD.loc (c:zAD K H T O){n:Nat}(ha:T[n]?=some (a,.lst)):∃ ws vs,O[n]?=some ws/\H a=some (.lst vs)/\DenWL K H T ws vs :=
 let ⟨ws,h1,vs,h2⟩:=c.cell ha;⟨ws,vs,h1,h2⟩
theorem zAD.loc' (c:zAD K H T O){n:Nat}(ha:T[n]?=some (a,.lst))(hw:O[n]?=some ws):∃ vs,H a=some (.lst vs)/\DenWL K H T ws vs:=c.cell' ha hw
theorem zAD.same (h:zAD K H T O)(e:Same H H'):zAD K H' T O :=
 ⟨h.len,h.nd,λn ws q=>let ⟨p,h1,h2⟩:=h.at_ n ws q;let ⟨_,g,_⟩:=h2.some;⟨p,h1,by have:=h2.mono (zAi e) ((e _ _ g).trans g.symm) [];rwa [append_nil] at this⟩⟩
theorem zAD.out (h:zAD K H T O)(hx:H x=some o)(ho:fz1 o=some u):x∉T.map (·.1):=λz=>by
 obtain⟨p,hp,rfl⟩:=mem_map.mp z;obtain⟨i,hi,ei⟩:=List.mem_iff_getElem.mp hp;obtain⟨a',q1,q2⟩:=h.at_ i _ (getElem?_eq_getElem (by rw[<- h.len];exact hi))
 simp_all
 obtain _:=q2.some;grind
theorem zAD.outN (h:zAD K H T O)(hx:H x=none):x∉T.map (·.1):=λz=>by
 obtain⟨p,hp,rfl⟩:=mem_map.mp z;obtain⟨i,hi,ei⟩:=List.mem_iff_getElem.mp hp;obtain⟨a',q1,q2⟩:=h.at_ i _ (getElem?_eq_getElem (by rw[<- h.len];exact hi));obtain _:=q2.some
 simp_all
theorem zAD.more (h:zAD K H T O){a:Addr}{k:CK}{ws:List W}(n:a∉T.map (·.1))(t:zBU K H (T++[(a,k)]) a ws k):zAD K H (T++[(a,k)]) (O++[ws]):=by
 refine⟨by rw[qQ,qQ,h.len];rfl,?_,λm xs q=>?_⟩
 .rw [x8,List.nodup_append];refine⟨h.nd,by simp,λb hb c hc=>?_⟩;rw[mem_singleton.mp hc];rintro rfl;exact n hb
 .by_cases lt:m < O.length
  .rw [getElem?_append_left lt] at q;obtain⟨p,q1,q2⟩:=h.at_ m xs q;exact⟨p,zCk q1,q2.mono (Kp.refl H) rfl _⟩
  .rw [getElem?_append_right (by omega)] at q;have em:m - O.length=0:=by
    have:=(zzg q).1
    simp_all
   rw[em] at q;cases q;exact⟨_,by rw[getElem?_append_right (by rw[h.len];omega),h.len,em];rfl,t⟩
theorem zAD.newG (h:zAD K H T O)(e:Same H H')(n:H a=none)(t:zBU K H' (T++[(a,k)]) a ws k):zAD K H' (T++[(a,k)]) (O++[ws]):=(h.same e).more (h.outN n) t
theorem zAD.new (h:zAD K H T O)(e:Same H H')(n:H a=none)(ha:H' a=some (.lst vs))(t:DenWL K H' (T++[(a,.lst)]) ws vs):zAD K H' (T++[(a,.lst)]) (O++[ws]):=h.newG e n ⟨vs,ha,t⟩
theorem zAD.chgG (h:zAD K H T O)(hn:n < O.length)(ha:T[n]?=some (a,k))(h2:fz1 o=none)(t:Kp H (upd H a o)->zBU K (upd H a o) T a ws k):zAD K (upd H a o) T (O.set n ws)/\Kp H (upd H a o):=by
 have kp:Kp H (upd H a o):=by
  obtain⟨_,_,h4⟩:=h.cell ha;obtain⟨_,g1,g2⟩:=h4.some;show Same _ _;rw[zKb g1 g2 h2];exact Same.refl _
 refine⟨⟨by rw[length_set];exact h.len,h.nd,λm xs q=>?_⟩,kp⟩;by_cases e:n=m
 .simp_all
 .rw [getElem?_set_ne e] at q;obtain⟨p,q1,q2⟩:=h.at_ m xs q;have ne:p.1≠a:=by
   rintro rfl;have l1:(T.map (·.1))[n]?=some p.1:=by rw[getElem?_map,ha];rfl
   have l2:(T.map (·.1))[m]?=some p.1:=by rw[getElem?_map,q1];rfl
   obtain⟨i1,e1⟩:=zzg l1;obtain⟨i2,e2⟩:=zzg l2;have pw:=List.pairwise_iff_getElem.mp h.nd;rcases Nat.lt_or_gt_of_ne e with lt | lt
   .exact pw n m i1 i2 lt (e1.trans e2.symm)
   .exact pw m n i2 i1 lt (e2.trans e1.symm)
  have:=q2.mono kp (zAN ne) []
  simp_all
theorem zAD.change (h:zAD K H T O)(hn:n < O.length)(ha:T[n]?=some (a,.lst))(t:DenWL K H T ws vs):zAD K (upd H a (.lst vs)) T (O.set n ws):=(h.chgG hn ha rfl λkp=>⟨vs,zAP,t.keep kp⟩).1
theorem MS.next (h:MS K H T O B G)(e:Kp H H')(c:zAD K H' (T++M) O1):MS K H' (T++M) O1 B G :=
 ⟨c,h.len,λi w q=>let ⟨v,q1,q2⟩:=h.get i w q;⟨v,q1,q2.mono e M⟩⟩
theorem MS.set (h:MS K H T O B G)(hw:DenW K H T w v):MS K H T O (B.set i (some v)) (G.set i (some w)):=by
 refine⟨h.cells,by rw[length_set,length_set];exact h.len,λj x q=>?_⟩;rcases zAO q with ⟨rfl,z,hl⟩ | ⟨ne,z⟩
 .cases z;exact⟨v,zBC (by rw[h.len];exact hl),hw⟩
 .obtain _:=h.get j x z
  simp_all
end
noncomputable def datA:List Str->List W->List (Str×D)
 | n::ns,.dat d::ws=>(n,d)::datA ns ws
 | _::ns,_::ws=>datA ns ws
 | _,_=>[]
noncomputable def dobj (c:Str)(ns:List Str)(ws:List W):D:=.obj c ((datA ns ws).map (·.1)) ((datA ns ws).map (·.2))
theorem zH5 {K:W.Frag}{gs:List (Str×V)}:∀ {ns:List Str} {ws:List W} {vs:List V},(ns.map λn=>gs.lookup n)=vs.map some->DenWL K H T ws vs->∃ us,(((datA ns ws).map (·.1)).map λn=>gs.lookup n)=us.map some/\DenL K (fzH H) ((datA ns ws).map (·.2)) us
 | [],ws,_,_,_=>⟨[],by unfold datA;rfl,by unfold datA;exact .nil⟩
 | _::_,[],_,_,_=>⟨[],rfl,.nil⟩
 | n::ns,w::ws,vs,h,t=>by
  rw[DenWL] at t;obtain⟨v,us,rfl,t1,t2⟩:=t;simp only[map_cons,List.cons.injEq] at h;obtain⟨zs,z1,z2⟩:=zH5 h.2 t2;cases w with
  | dat d =>
   rw[DenW] at t1;refine⟨v::zs,?_,.cons t1 z2⟩;show gs.lookup n::_=some v::_;rw[h.1,<- z1]
  | loc _=>exact⟨zs,z1,z2⟩
  | tup _=>exact⟨zs,z1,z2⟩
  | ob _ _ _=>exact⟨zs,z1,z2⟩
  | di _ _=>exact⟨zs,z1,z2⟩
  | obj _ _ _=>exact⟨zs,z1,z2⟩
theorem zH2 {K:W.Frag}(h:DenW K H T (.obj c ns ws) v):Den K (fzH H) (dobj c ns ws) v:=by
 obtain⟨a,vs,rfl,⟨C,dx,gs,h1,h2,h3,h4⟩,h5⟩:=h;obtain⟨us,u1,u2⟩:=zH5 h4 h5;exact⟨a,us,rfl,⟨C,dx,gs,h1,h2,h3,u1⟩,u2⟩
mutual
noncomputable def sbW (f:Nat->Option D):W->Option D
 | .dat d=>some d
 | .loc n=>f n
 | .tup ws=>(sbL f ws).map .tup
 | .obj c ns ws=>some (dobj c ns ws)
 | .ob _ _ _=>none
 | .di _ _=>none
noncomputable def sbL (f:Nat->Option D):List W->Option (List D)
 | []=>some []
 | w::ws=>(sbW f w).bind λd=>(sbL f ws).map λds=>d::ds
end
noncomputable def drN (O:Mem):Nat->Nat->Option D
 | 0,_=>none
 | k+1,n=>(O[n]?).bind λws=>(sbL (drN O k) ws).map .lst
noncomputable def drW (O:Mem)(w:W):Option D:=sbW (drN O 6) w
noncomputable def drS (O:Mem)(G:List (Option W)):Dst:=G.map λo=>o.bind λw=>(drW O w).map λd=>(d,false)
section
variable {K:W.Frag}{H:Hp}{T:List CA}{O:Mem}
mutual
theorem zNg {f:Nat->Option D}(hf:∀ n d a,f n=some d->T[n]?=some (a,.lst)->Den K H d (.ref a)):∀ {w:W} {v:V} {d:D},DenW K H T w v->sbW f w=some d->Den K H d v
 | .dat x,v,d,h,e=>by
  rw[sbW] at e;cases e;rw[DenW] at h;exact h.mono zBI
 | .loc n,v,d,h,e=>by
  rw[sbW] at e;rw[DenW] at h;obtain⟨a,h1,rfl⟩:=h;exact hf n d a e h1
 | .tup ws,v,d,h,e=>by
  rw[sbW] at e;obtain⟨ds,e1,rfl⟩:=yq.mp e;rw[DenW] at h;obtain⟨a,vs,rfl,h2,h3⟩:=h;rw[Den];exact⟨a,vs,rfl,SqT.of (zBI _ _ h2),sb_denL hf h3 e1⟩
 | .obj c ns ws,v,d,h,e=>by
  rw[sbW] at e;cases e;exact(zH2 h).mono zBI
 | .ob _ _ _,_,_,_,e=>by rw[sbW] at e;cases e
 | .di _ _,_,_,_,e=>by rw[sbW] at e;cases e
theorem sb_denL {f:Nat->Option D}(hf:∀ n d a,f n=some d->T[n]?=some (a,.lst)->Den K H d (.ref a)):∀ {ws:List W} {vs:List V} {ds:List D},DenWL K H T ws vs->sbL f ws=some ds->DenL K H ds vs
 | [],_,_,h,e=>by
  rw[sbL] at e;cases e;rw[DenWL] at h;subst h;exact .nil
 | w::ws,_,_,h,e=>by
  rw[sbL] at e;obtain⟨d,e1,e⟩:=bind_some e;obtain⟨ds,e2,rfl⟩:=yq.mp e;rw[DenWL] at h;obtain⟨v,us,rfl,h2,h3⟩:=h;exact .cons (zNg hf h2 e1) (sb_denL hf h3 e2)
end
theorem zHG (c:zAD K H T O):∀ (k n:Nat) (d:D) (a:Addr),drN O k n=some d->T[n]?=some (a,.lst)->Den K H d (.ref a)
 | 0,_,_,_,e,_=>by cases e
 | k+1,n,d,a,e,ha=>by
  obtain⟨ws,e1,e⟩:=bind_some e;obtain⟨ds,e2,rfl⟩:=yq.mp e;obtain⟨vs,q2,q3⟩:=c.loc' ha e1;rw[Den];exact⟨a,vs,rfl,SqL.of q2,sb_denL (zHG c k) q3 e2⟩
theorem zK9 (c:zAD K H T O)(h:DenW K H T w v)(e:drW O w=some d):Den K H d v:=zNg (zHG c 6) h e
theorem zOH (h:MS K H T O B G):DS K H [] B (drS O G):=by
 refine⟨by unfold drS;rw[qy];exact h.len,λa z=>absurd z (by simp),λi d o q=>?_,λi j d e a q1 q2 _ _=>?_⟩
 .unfold drS at q;rw[getElem?_map] at q;obtain⟨x,e1,e2⟩:=yq.mp q;obtain⟨w,rfl,e2⟩:=bind_some e2;obtain⟨d',e3,e4⟩:=yq.mp e2;cases e4;obtain⟨v,q1,q2⟩:=h.get i w e1;exact⟨v,q1,.of_den (zK9 h.cells q2 e3)⟩
 .unfold drS at q1;rw[getElem?_map] at q1;obtain⟨x,e1,e2⟩:=yq.mp q1;obtain _:=bind_some e2
  simp_all
end
structure Mst where
 G:List (Option W)
 O:Mem
abbrev MR:=W×Mem
def gM (K:W.Frag)(g:Mst->Option MR):TE:=λB H Q=>∃ T G O r,MS K H T O B G/\g ⟨G,O⟩=some r/\∀ v H' M,Kp H H'->zAD K H' (T++M) r.2->DenW K H' (T++M) r.1 v->Q v H'
def GM (X:Cx)(e:Expr)(g:Mst->Option MR):Prop:=PE X e (gM X.K g)
noncomputable def zC5 (r:R)(O:Mem):Option MR:=match r with
 | (d,.cl)=>if noL d=true then some (.dat d,O) else none
 | (.lst es,.fr)=>if noLs es=true then some (.loc O.length,O++[es.map .dat]) else none
 | _=>none
noncomputable def zMQ (f:Dst->Option R):Mst->Option MR:=λs=>(f (drS s.O s.G)).bind λr=>zC5 r s.O
theorem zFk {K:W.Frag}(c:zAD K H T O)(e:Same H H')(h:RV K H H' [] r v)(q:zC5 r O=some z):∃ M,zAD K H' (T++M) z.2/\DenW K H' (T++M) z.1 v:=by
 unfold zC5 at q;split at q
 .rename_i d;by_cases n:noL d=true
  .rw [if_pos n] at q;cases q;refine⟨[],by rw[append_nil];exact c.same e,?_⟩;rw[DenW];exact h.fz n
  .rw [if_neg n] at q;cases q
 .rename_i es;by_cases n:noLs es=true
  .rw [if_pos n] at q;cases q;obtain⟨a,vs,ds,rfl,e2,_,e4,e5,t⟩:=h;cases e2;refine⟨[(a,.lst)],c.new e e4 e5 (DenWL.dats ((t.mono zAa).fz n)),?_⟩;rw[DenW];exact⟨a,by show _[O.length]?=_;rw[getElem?_append_right (by rw[c.len];omega),c.len,sub_self];rfl,rfl⟩
  .rw [if_neg n] at q;cases q
 .cases q
theorem zPl (h:GE X e f):GM X e (zMQ f):=h.imp λB H Q zz87=>by
 obtain⟨T,G,O,z,ms,q,c⟩:=zz87;obtain⟨r,er,q⟩:=bind_some q;refine⟨[],drS O G,r,zOH ms,er,λv H' s1 r1=>?_⟩;obtain⟨M,c1,d1⟩:=zFk ms.cells s1 r1 q;exact c v H' M (zAi s1) c1 d1
section
variable {X:Cx}
noncomputable def varM (i:Nat):Mst->Option MR:=λs=>match s.G[i]? with
 | some (some w)=>some (w,s.O)
 | _=>none
theorem zSH (hN:X.N[i]?=some x)(hv:Vis X.env.scope x)(hd:(x==("__debug__":Str))=false)(hcd:(x==("__classdict__":Str))=false):GM X (.Name x pos) (varM i):=by
 refine(zC0 hN hv hd hcd).imp λB H Q zz88=>?_
 obtain⟨T,G,O,r,ms,q,c⟩:=zz88;unfold varM at q;split at q
 .rename_i w e;cases q;obtain⟨v,q1,q2⟩:=ms.get i w e;exact⟨v,q1,c v H [] (Kp.refl H) (by rw[append_nil];exact ms.cells) (by rw[append_nil];exact q2)⟩
 .cases q
abbrev MA:=List W×Mem
def gAM (K:W.Frag)(g:Mst->Option MA):TA:=λB H Q=>∃ T G O r,MS K H T O B G/\g ⟨G,O⟩=some r/\∀ vs H' M,Kp H H'->zAD K H' (T++M) r.2->DenWL K H' (T++M) r.1 vs->Q vs H'
def GAM (X:Cx)(es:List Expr)(g:Mst->Option MA):Prop:=PA X es (gAM X.K g)
noncomputable def nilM:Mst->Option MA:=λs=>some ([],s.O)
theorem zPv:GAM X [] nilM:=zA1.imp λB H Q zz89=>by
 obtain⟨T,G,O,r,ms,q,c⟩:=zz89;cases q;exact c [] H [] (Kp.refl H) (by rw[append_nil];exact ms.cells) .nil
noncomputable def zNG (f:Mst->Option MR)(g:Mst->Option MA):Mst->Option MA:=λs=>(f s).bind λw=>(g ⟨s.G,w.2⟩).bind λws=>some (w.1::ws.1,ws.2)
theorem zMo (ha:GM X e f)(hr:GAM X es g)(hs:starEach (e::es) X.env=(false,eval e X.env)::starEach es X.env):GAM X (e::es) (zNG f g):=by
 refine(zAU ha hr hs).imp λB H Q zz90=>?_
 obtain⟨T,G,O,r,ms,q,c⟩:=zz90;obtain⟨w,e1,q⟩:=bind_some q;obtain⟨ws,e2,q⟩:=bind_some q;cases q;refine⟨T,G,O,w,ms,e1,λv H1 M1 k1 c1 d1=>⟨T++M1,G,w.2,ws,ms.next k1 c1,e2,λvs H2 M2 k2 c2 d2=>?_⟩⟩;refine c (v::vs) H2 (M1++M2) (k1.trans k2) (by rw[<- q0];exact c2) (.cons ?_ ?_)
 .rw [<- q0];exact d1.mono k2 M2
 .rw [<- q0];exact d2
noncomputable def lstM (g:Mst->Option MA):Mst->Option MR:=λs=>(g s).bind λr=>if r.1.length<=10000 then some (.loc r.2.length,r.2++[r.1]) else none
noncomputable def datL:List W->Option (List D)
 | []=>some []
 | .dat d::ws=>(datL ws).map λds=>d::ds
 | _=>none
noncomputable def zLt (g:Mst->Option MA):Mst->Option MR:=λs=>(g s).bind λr=>if r.1.length<=10000 then (datL r.1).map λds=>(.dat (.tup ds),r.2) else none
theorem zH4 {K:W.Frag}:∀ {ws:List W} {vs:List V} {ds:List D},DenWL K H T ws vs->datL ws=some ds->DenL K (fzH H) ds vs
 | [],vs,ds,h,e=>by
  cases e;rw[DenWL] at h;rw[DenL];exact h
 | .dat d::ws,vs,ds,h,e=>by
  obtain⟨es,e1,e2⟩:=yq.mp (show (datL ws).map (λds=>d::ds)=some ds from e);subst e2;rw[DenWL] at h;obtain⟨v,us,rfl,h2,h3⟩:=h;rw[DenW] at h2;rw[DenL];exact⟨v,us,rfl,h2,zH4 h3 e1⟩
 | .loc _::_,_,_,_,e=>nomatch e
 | .tup _::_,_,_,_,e=>nomatch e
 | .obj _ _ _::_,_,_,_,e=>nomatch e
 | .ob _ _ _::_,_,_,_,e=>nomatch e
 | .di _ _::_,_,_,_,e=>nomatch e
theorem zDu {K:W.Frag}(c:zAD K H T O):DenW K H' (T++[(a,.lst)]) (.loc O.length) (.ref a):=by
 exact⟨a,by rw[getElem?_append_right (by rw[c.len];omega),c.len,sub_self];rfl,rfl⟩
theorem zSJ (h:GAM X es g):GM X (.List es pos) (lstM g):=by
 refine(zNq h).imp λB H Q zz91=>?_
 obtain⟨T,G,O,r,ms,q,c⟩:=zz91;obtain⟨ws,e1,q⟩:=bind_some q;by_cases hl:ws.1.length<=10000
 .rw [if_pos hl] at q;cases q;refine⟨T,G,O,ws,ms,e1,λvs H1 M k1 c1 d1=>⟨by rw[<- d1.length];exact zCw hl,λp n=>?_⟩⟩;have s2:Same H1 (upd H1 p (.lst vs)):=zAQ n _;refine c _ _ (M++[(p,.lst)]) (k1.trans (zAi s2)) ?_ ?_
  .rw [<- q0];exact c1.new s2 n zAP (d1.mono (zAi s2) [(p,.lst)])
  .rw [<- q0];exact zDu c1
 .rw [if_neg hl] at q;cases q
theorem zPh {x1}(h:GAM X es g):GM X (.Tuple es x1 pos) (zLt g):=by
 refine(zNp h).imp λB H Q zz92=>?_
 obtain⟨T,G,O,r,ms,q,c⟩:=zz92;obtain⟨ws,e1,q⟩:=bind_some q;by_cases hl:ws.1.length<=10000
 .rw [if_pos hl] at q;obtain⟨ds,e2,e3⟩:=yq.mp q;subst e3;refine⟨T,G,O,ws,ms,e1,λvs H1 M k1 c1 d1=>⟨by rw[<- d1.length];exact zCw hl,λp n=>?_⟩⟩;have s2:Same H1 (upd H1 p (.tup vs)):=zAQ n _;refine c _ _ M (k1.trans (zAi s2)) (c1.same s2) ?_;rw[DenW,Den];exact⟨p,vs,rfl,SqT.of (zOA zAP),zH4 (d1.keep (zAi s2)) e2⟩
 .rw [if_neg hl] at q;cases q
abbrev MF:=List W->Mem->Option MR
def spM (K:W.Frag)(F:MF):Sp:=λvs H Q _=>∃ T O ws r,zAD K H T O/\DenWL K H T ws vs/\F ws O=some r/\∀ v H' M,Kp H H'->zAD K H' (T++M) r.2->DenW K H' (T++M) r.1 v->Q v H'
noncomputable def zLU (F:MF)(g:Mst->Option MA):Mst->Option MR:=λs=>(g s).bind λws=>F ws.1 ws.2
theorem zLT {F:MF}{g:Mst->Option MA}{B:St}{H:Hp}{Q:VK}(q:gM X.K (zLU F g) B H Q):zLw (spM X.K F) [] E0 (gAM X.K g) B H Q:=by
 obtain⟨T,G,O,r,ms,q,c⟩:=q;obtain⟨ws,e1,q⟩:=bind_some q;refine⟨T,G,O,ws,ms,e1,λvs H1 M k1 c1 d1=>?_⟩;simp;exact⟨T++M,ws.2,ws.1,r,c1,d1,q,λv H2 M2 k2 c2 d2=>c v H2 (M++M2) (k1.trans k2) (by simp_all) (by simp_all)⟩
theorem zPm {k:Nat}{f:Addr}{fd:FuncData}{ps:List Str}{F:MF}{x:Str}{p pos:Pos}{e:Expr}{es:List Expr}{g:Mst->Option MA}(FO:FnOk X.prog X.w X.K X.mg X.base CX0 k f fd ps (spM X.K F))(hr:Room k X.A)(hg:Gl X x)(hm:X.mg x=some (.ref f))
  (hk:W.keepIn X.K (.ref f)=true) (hb:zBA X.K fd ps []) (ha:GAM X (e::es) g) (hdb:(x==("__debug__":Str))=false) (he:starEach (e::es) X.env=(false,eval e X.env)::starEach es X.env) (hpl:∀ pos,(backTo pos (starEach es X.env)).any (·.1)=false) :
  GM X (.Call (.Name x p) (e::es) [] pos) (zLU F g) :=
 (zJb FO hr hg hm hk hb .nil zGp ha hdb he (hpl pos)).imp λ_ _ _ q=>zLT q
noncomputable def zGA (F:List D->Option R):MF:=λws O=>(sbL (drN O 6) ws).bind λds=>(F ds).bind λr=>zC5 r O
theorem FnOk.lift {K:W.Frag}(h:FnOk P w K mg base CX0 k f fd ps (spD K F)):FnOk P w K mg base CX0 k f fd ps (spM K (zGA F)) :=
 h.imp λvs H Q E zz93=>by
  obtain⟨T,O,ws,r,c,d,q,n⟩:=zz93;obtain⟨ds,e1,q⟩:=bind_some q;obtain⟨z,e2,q⟩:=bind_some q;refine⟨[],ds,z,λa ha=>absurd ha (by simp),by rw[zBy];exact sb_denL (zHG c 6) d e1,e2,?_,λv H' s1 r1=>?_⟩
  .intro hz;unfold zC5 at q;split at q
   .cases hz
   .cases hz
   .cases q
  .obtain ⟨M,c1,d1⟩:=zFk c s1 r1 q;exact n v H' M (zAi s1) c1 d1
noncomputable def opM (o:D->D->Option R)(x y:W)(O:Mem):Option MR:=(drW O x).bind λa=>(drW O y).bind λb=>(o a b).bind λr=>zC5 r O
noncomputable def twoM (f g:Mst->Option MR)(o:W->W->Mem->Option MR):Mst->Option MR:=λs=>(f s).bind λx=>(g ⟨s.G,x.2⟩).bind λy=>o x.1 y.1 y.2
def OpW (K:W.Frag)(r:R2)(o:W->W->Mem->Option MR):Prop :=
 ∀ (H:Hp) (T:List CA) (O:Mem) (x y:W) (z:MR) (vx vy:V) (Q:VK),zAD K H T O->o x y O=some z->DenW K H T x vx->DenW K H T y vy->(∀ v H' M,Kp H H'->zAD K H' (T++M) z.2->DenW K H' (T++M) z.1 v->Q v H')->r vx vy H Q
theorem zRL {K:W.Frag}(h:OpD K r o):OpW K r (opM o):=λH T O x y z vx vy Q c e dx dy n=>by
 obtain⟨a,ea,e⟩:=bind_some e;obtain⟨b,eb,e⟩:=bind_some e;obtain⟨q,e1,e2⟩:=bind_some e;refine h [] H a b q vx vy Q (λa z=>absurd z (by simp)) e1 (.inl (zK9 c dx ea)) (.inl (zK9 c dy eb)) λv H' s1 r1=>?_
 obtain⟨M,c1,d1⟩:=zFk c s1 r1 e2;exact n v H' M (zAi s1) c1 d1
theorem zJi {r:R2}{o:W->W->Mem->Option MR}{f g:Mst->Option MR}(h:OpW X.K r o){B:St}{H:Hp}{Q:VK}(q:gM X.K (twoM f g o) B H Q):tOp r (gM X.K f) (gM X.K g) B H Q:=by
 obtain⟨T,G,O,z,ms,q,c⟩:=q;obtain⟨x,e1,q⟩:=bind_some q;obtain⟨y,e2,q⟩:=bind_some q;refine⟨T,G,O,x,ms,e1,λvx H1 M1 k1 c1 d1=>⟨T++M1,G,x.2,y,ms.next k1 c1,e2,λvy H2 M2 k2 c2 d2=>?_⟩⟩;refine h H2 _ y.2 x.1 y.1 z vx vy Q c2 q (d1.mono k2 M2) d2 λv H3 M3 k3 c3 d3=>c v H3 (M1++M2++M3) (k1.trans (k2.trans k3)) ?_ ?_
 .grind
 .simp_all
noncomputable def ixW (x y:W)(O:Mem):Option MR:=match x,y with
 | .loc n,.dat (.int i)=>(O[n]?).bind λws=>(atI ws i).map λw=>(w,O)
 | .tup ws,.dat (.int i)=>(atI ws i).map λw=>(w,O)
 | .dat (.tup ds),.dat (.int i)=>(atI ds i).map λd=>(.dat d,O)
 | .dat (.lst ds),.dat (.int i)=>(atI ds i).map λd=>(.dat d,O)
 | _,_=>none
theorem DenWL.atI {K:W.Frag}(h:DenWL K H T ws vs)(e:atI ws i=some w):∃ v,L2.atI vs i=some v/\DenW K H T w v:=by
 unfold L2.atI at e ⊢;obtain⟨j,e1,e2⟩:=bind_some e;obtain⟨v,q1,q2⟩:=h.get e2;refine⟨v,?_,q2⟩;rw[<- h.length,e1];exact q1
theorem zRM:OpW X.K (λx y H Q=>rIxL X.K x y H Q\/rIxT X.K x y H Q) ixW:=λH T O x y z vx vy Q c e dx dy n=>by
 have fin:∀ {w:W} {v:V},DenW X.K H T w v->z=(w,O)->Q v H:=λ{w v} d ez=>by
  subst ez;exact n v H [] (Kp.refl H) (by rw[append_nil];exact c) (by rw[append_nil];exact d)
 unfold ixW at e;split at e
 .rename_i m i;obtain⟨ws,e1,e⟩:=bind_some e;obtain⟨w,e2,e⟩:=yq.mp e;rw[DenW] at dx;rw[DenW] at dy;rw[Den] at dy;obtain⟨b,h1,rfl⟩:=dx;obtain⟨vs,q2,q3⟩:=c.loc' h1 e1;obtain⟨v,g1,g2⟩:=q3.atI e2;exact .inl ⟨_,vs,i,v,rfl,dy,SqL.of q2,g1,fin g2 e.symm⟩
 .rename_i ws i;obtain⟨w,e2,e⟩:=yq.mp e;rw[DenW] at dx;rw[DenW] at dy;rw[Den] at dy;obtain⟨a,vs,rfl,h2,h3⟩:=dx;obtain⟨v,g1,g2⟩:=h3.atI e2;exact .inr ⟨a,vs,i,v,rfl,dy,SqT.of (zBI _ _ h2),g1,fin g2 e.symm⟩
 .rename_i ds i;obtain⟨d,e2,e⟩:=yq.mp e;rw[DenW] at dx;rw[DenW] at dy;rw[Den] at dx;rw[Den] at dy;obtain⟨a,vs,rfl,h2,h3⟩:=dx;obtain⟨v,g1,g2⟩:=h3.atI e2;exact .inr ⟨a,vs,i,v,rfl,dy,Same.tupS zBI h2,g1,fin (w:=.dat d) (by rw[DenW];exact g2) e.symm⟩
 .rename_i ds i;obtain⟨d,e2,e⟩:=yq.mp e;rw[DenW] at dx;rw[DenW] at dy;rw[Den] at dx;rw[Den] at dy;obtain⟨a,vs,rfl,h2,h3⟩:=dx;obtain⟨v,g1,g2⟩:=h3.atI e2;exact .inl ⟨a,vs,i,v,rfl,dy,zBI.seq h2,g1,fin (w:=.dat d) (by rw[DenW];exact g2) e.symm⟩
 .cases e
theorem zT7 (ha:GM X a f)(hb:GM X b g)(hs:zFl b):GM X (.Subscript a b pos) (twoM f g ixW) :=
 (zRH (zKH.or zN3) ha hb hs).imp λ_ _ _ q=>zJi zRM q
theorem zIf (ho:OpR X (binaryOp op) r)(h:OpD X.K r o)(ha:GM X a f)(hb:GM X b g):GM X (.BinOp a op b pos) (twoM f g (opM o)) :=
 (zRD ho ha hb).imp λ_ _ _ q=>zJi (zRL h) q
end
section
variable {X:Cx}
abbrev MB:=Bool×Mem
def gBM (K:W.Frag)(g:Mst->Option MB):TT:=λB H Q=>∃ T G O r,MS K H T O B G/\g ⟨G,O⟩=some r/\∀ H' M,Kp H H'->zAD K H' (T++M) r.2->Q r.1 H'
def GTM (X:Cx)(e:Expr)(g:Mst->Option MB):Prop:=PT X e (gBM X.K g)
def GWM (X:Cx)(e:Expr)(g:Mst->Option MB):Prop:=PW X e (gBM X.K g)
noncomputable def asBM (f:Mst->Option MR):Mst->Option MB:=λs=>match f s with
 | some (.dat (.bl b),O)=>some (b,O)
 | _=>none
theorem zLX (h:asBM f s=some r):f s=some (.dat (.bl r.1),r.2):=by
 unfold asBM at h;split at h
 .rename_i e;cases h;omega
 .cases h
theorem zPy {f:Mst->Option MR}{B:St}{H:Hp}{Q:Bool->Hp->Prop}(q:gBM X.K (asBM f) B H Q):gM X.K f B H λx H'=>∃ k,x=.bl k/\Q k H':=by
 obtain⟨T,G,O,r,ms,e,c⟩:=q;refine⟨T,G,O,_,ms,zLX e,λv H' M k1 c1 d1=>⟨r.1,?_,c H' M k1 c1⟩⟩;exact d1
noncomputable def zMR (k:Dst->Option Bool):Mst->Option MB:=λs=>(k (drS s.O s.G)).map λb=>(b,s.O)
theorem zMd (h:GT X e k):GTM X e (zMR k):=h.imp λB H Q zz94=>by
 obtain⟨T,G,O,r,ms,q,c⟩:=zz94;obtain⟨b,e1,e2⟩:=yq.mp q;cases e2;exact⟨[],drS O G,b,zOH ms,e1,λH' s1=>c H' [] (zAi s1) (by rw[append_nil];exact ms.cells.same s1)⟩
theorem zPW (h:GM X e f)(he:∀ whole,isTrue e X.env whole=(do let v<-whole;standAt e.pos;holding [v] (truthy v))):GTM X e (asBM f) :=
 (zNk h he).imp λ_ _ _ q=>zPy q
noncomputable def andB (f g:Mst->Option MB):Mst->Option MB:=λs=>(f s).bind λr=>if r.1=true then g ⟨s.G,r.2⟩ else some (false,r.2)
noncomputable def orB (f g:Mst->Option MB):Mst->Option MB:=λs=>(f s).bind λr=>if r.1=true then some (true,r.2) else g ⟨s.G,r.2⟩
noncomputable def notB (f:Mst->Option MB):Mst->Option MB:=λs=>(f s).map λr=>(!r.1,r.2)
theorem zPX (h:GTM X a f):GTM X (.UnaryOp .Not a pos) (notB f) :=
 (zNl h).imp λB H Q zz95=>by
  obtain⟨T,G,O,r,ms,q,c⟩:=zz95;obtain⟨z,e1,e2⟩:=yq.mp q;cases e2;exact⟨T,G,O,z,ms,e1,λH' M k1 c1=>c H' M k1 c1⟩
theorem zMc (h:GTM X a f):GWM X (.BoolOp .And [a] pos) f:=zJV h
theorem zPU (h:GTM X a f):GWM X (.BoolOp .Or [a] pos) f:=zNi h
theorem zPV (ha:GTM X a f)(hb:GWM X (.BoolOp .And (b::rest) pos) g):GWM X (.BoolOp .And (a::b::rest) pos) (andB f g):=by
 refine PW.imp (zNj ha hb) λB H Q zz96=>?_
 obtain⟨T,G,O,r,ms,q,c⟩:=zz96;obtain⟨⟨b1,O4⟩,e1,q⟩:=bind_some q;cases b1 with
 | true =>
  rw[if_pos rfl] at q;refine⟨T,G,O,_,ms,e1,λH1 M k1 c1=>iteT ?_⟩;exact⟨T++M,G,O4,r,ms.next k1 c1,q,λH2 M2 k2 c2=>c H2 (M++M2) (k1.trans k2) (by rw[<- q0];exact c2)⟩
 | false =>
  rw[if_neg qY] at q;cases q;exact⟨T,G,O,_,ms,e1,λH1 M k1 c1=>iteF (c H1 M k1 c1)⟩
theorem zR5 (ha:GTM X a f)(hb:GWM X (.BoolOp .Or (b::rest) pos) g):GWM X (.BoolOp .Or (a::b::rest) pos) (orB f g):=by
 refine PW.imp (zQ6 ha hb) λB H Q zz97=>?_
 obtain⟨T,G,O,r,ms,q,c⟩:=zz97;obtain⟨⟨b1,O4⟩,e1,q⟩:=bind_some q;cases b1 with
 | true =>
  rw[if_pos rfl] at q;cases q;exact⟨T,G,O,_,ms,e1,λH1 M k1 c1=>iteT (c H1 M k1 c1)⟩
 | false =>
  rw[if_neg qY] at q;refine⟨T,G,O,_,ms,e1,λH1 M k1 c1=>iteF ?_⟩;exact⟨T++M,G,O4,r,ms.next k1 c1,q,λH2 M2 k2 c2=>c H2 (M++M2) (k1.trans k2) (by rw[<- q0];exact c2)⟩
inductive OutM where
 | nx (s:Mst) | rt (r:MR) | bk (s:Mst) | ct (s:Mst)
def zUO (K:W.Frag)(H0:Hp)(α0:List CA)(o:OutM)(E:Ends):Prop:=match o with
 | .nx s=>∀ M B' H',MS K H' (α0++M) s.O B' s.G->Kp H0 H'->E.nx B' H'
 | .bk s=>∀ M B' H',MS K H' (α0++M) s.O B' s.G->Kp H0 H'->E.bk B' H'
 | .ct s=>∀ M B' H',MS K H' (α0++M) s.O B' s.G->Kp H0 H'->E.ct B' H'
 | .rt r=>∀ M v H',zAD K H' (α0++M) r.2->DenW K H' (α0++M) r.1 v->Kp H0 H'->E.rt v H'
def gSM (K:W.Frag)(H0:Hp)(α0:List CA)(g:Mst->Option OutM):TS:=λE B H=>∃ M s o,MS K H (α0++M) s.O B s.G/\Kp H0 H/\g s=some o/\zUO K H0 α0 o E
def GSM (X:Cx)(st:Stmt)(g:Mst->Option OutM):Prop:=∀ H0 α0,PS X st (gSM X.K H0 α0 g)
def GSsM (X:Cx)(st:List Stmt)(g:Mst->Option OutM):Prop:=∀ H0 α0,PSs X st (gSM X.K H0 α0 g)
noncomputable def seqM (f g:Mst->Option OutM):Mst->Option OutM:=λs=>(f s).bind λo=>match o with
 | .nx s'=>g s'
 | o=>some o
theorem zMe:GSsM X [] (λs=>some (.nx s)):=λH0 α0=>zGk.imp λE B H zz98=>by
 obtain⟨M,s,o,ms,k,e,p⟩:=zz98;cases e;exact p M B H ms k
theorem zKP {st:Stmt}(h1:GSM X st f)(h2:GSsM X rest g):GSsM X (st::rest) (seqM f g):=λH0 α0=>(zFK (h1 H0 α0) (h2 H0 α0)).imp λE B H zz99=>by
 obtain⟨M,s,o,ms,k,e,p⟩:=zz99;obtain⟨o1,e1,e⟩:=bind_some e;refine⟨M,s,o1,ms,k,e1,?_⟩;cases o1 with
 | nx s'=>exact λM' B' H' ms' k'=>⟨M',s',o,ms',k',e,p⟩
 | rt r=>cases e;exact p
 | bk s'=>cases e;exact p
 | ct s'=>cases e;exact p
noncomputable def setM (i:Nat)(f:Mst->Option MR):Mst->Option OutM:=λs=>(f s).bind λr=>some (.nx ⟨s.G.set i (some r.1),r.2⟩)
theorem zKQ (hN:X.N.Nodup)(hi:X.N[i]?=some x)(hx:Loc X.env.scope x)(h:GM X e f)(hs:swapsWith e (some (.Name x pos')) pos.line X.env=pure false)(hf:X.fn x=true\/X.env.scope.names.lookup x=some .local) :
  GSM X (.Assign [.Name x pos'] e pos) (setM i f):=λH0 α0=>(zNm hN hi hx h hs hf).imp λE B H zz100=>by
 obtain⟨M,s,o,ms,k,e,p⟩:=zz100;obtain⟨r,er,e⟩:=bind_some e;cases e;refine⟨α0++M,s.G,s.O,r,ms,er,λv H1 M1 k1 c1 d1=>?_⟩;have ms1:=(ms.next k1 c1).set (i:=i) d1;rw[q0] at ms1;exact p (M++M1) _ H1 ms1 (k.trans k1)
noncomputable def retM (f:Mst->Option MR):Mst->Option OutM:=λs=>(f s).bind λr=>some (.rt r)
theorem zPa (h:GM X e f):GSM X (.Return (some e) pos) (retM f):=λH0 α0=>(zJW h).imp λE B H zz101=>by
 obtain⟨M,s,o,ms,k,e,p⟩:=zz101;obtain⟨r,er,e⟩:=bind_some e;cases e;refine⟨α0++M,s.G,s.O,r,ms,er,λv H1 M1 k1 c1 d1=>?_⟩;rw[q0] at c1 d1;exact p (M++M1) v H1 c1 d1 (k.trans k1)
theorem zKR {st:Stmt}:GSM X st (λ_=>none):=λH0 α0=>(zFL (X:=X) (st:=st)).imp λE B H zy141=>by obtain⟨M,s,o,ms,k,e,p⟩:=zy141;cases e
noncomputable def ifM (c:Mst->Option MB)(f g:Mst->Option OutM):Mst->Option OutM:=λs=>(c s).bind λb=>if b.1=true then f ⟨s.G,b.2⟩ else g ⟨s.G,b.2⟩
theorem zSB (hc:GTM X c k)(ha:GSsM X a f)(hb:GSsM X b g):GSM X (.If c a b pos) (ifM k f g):=λH0 α0=>(zQ7 hc (ha H0 α0) (hb H0 α0)).imp λE B H zz102=>by
 obtain⟨M,s,o,ms,kp,e,p⟩:=zz102;obtain⟨⟨b1,O4⟩,e1,e⟩:=bind_some e;refine⟨α0++M,s.G,s.O,_,ms,e1,λH1 M1 k1 c1=>?_⟩;have ms1:=ms.next k1 c1;rw[q0] at ms1;cases b1 with
 | true =>
  rw[if_pos rfl] at e;exact iteT ⟨M++M1,_,o,ms1,kp.trans k1,e,p⟩
 | false =>
  rw[if_neg qY] at e;exact iteF ⟨M++M1,_,o,ms1,kp.trans k1,e,p⟩
noncomputable def appM (t f:Mst->Option MR):Mst->Option OutM:=λs=>(t s).bind λx=>match x.1 with
 | .loc n=>(f ⟨s.G,x.2⟩).bind λr=>(r.2[n]?).bind λws=>if ws.length<=10000 then some (.nx ⟨s.G,r.2.set n (ws++[r.1])⟩) else none
 | _=>none
theorem zPd (hb:GM X b t)(h:GM X e f)
  (he:starEach [e] X.env=[(false,eval e X.env)]) (hbase:attributeBase b "append" X.env (eval b X.env)=eval b X.env) (hline:(apos.endLine==cpos.line)=true) :
  GSM X (.Expr (.Call (.Attribute b "append" apos) [e] [] cpos) pos) (appM t f):=λH0 α0=>(zGl (zOp PySem.F.plainAttrs_list PySem.F.slot_list_append PySem.F.type_list_append zF4 hb (zAU h zA1 he) hbase (by rw[he];rfl) hline he rfl) rfl).imp λE B H zz103=>by
 obtain⟨M,s,o,ms,k,e,p⟩:=zz103;obtain⟨x,ex,e⟩:=bind_some e;split at e
 .rename_i n en;obtain⟨r,er,e⟩:=bind_some e;obtain⟨ws,ew,e⟩:=bind_some e;by_cases hl:ws.length<=10000
  .rw [if_pos hl] at e;cases e;refine⟨α0++M,s.G,s.O,x,ms,ex,λv H1 M1 k1 c1 d1=>?_⟩;rw[en,DenW] at d1;obtain⟨a,ha,rfl⟩:=d1;have ms1:=ms.next k1 c1;obtain⟨_,vs0,_,q2,_⟩:=c1.loc ha;refine⟨.inl ⟨rfl,_,SqL.of q2⟩,α0++M++M1,s.G,x.2,r,ms1,er,λy H2 M2 k2 c2 d2=>?_⟩;have ms2:=ms1.next k2 c2;have ha2:=zCk (M:=M2) ha;obtain⟨vs,g2,g3⟩:=c2.loc' ha2 ew;refine⟨a,vs,y,rfl,rfl,g2,by rw[<- g3.length];exact Nat.lt_of_le_of_lt hl (by decide),?_⟩;have hn2:n < r.2.length:=(zzg ew).1;have kp:Kp H2 (upd H2 a (.lst (vs++[y]))):=by show Same _ _;rw[zN9 g2];exact Same.refl _
   have c3:=c2.change hn2 ha2 (g3.append (.cons d2 .nil));have ms3:MS X.K (upd H2 a (.lst (vs++[y]))) (α0++(M++M1++M2)) (r.2.set n (ws++[r.1])) B s.G:=by
    have m:=ms2.next (M:=[]) kp (by rw[append_nil];exact c3);rw[append_nil] at m;rw[show α0++(M++M1++M2)=α0++M++M1++M2 by simp];exact m
   exact p (M++M1++M2) B _ ms3 (k.trans (k1.trans (k2.trans kp)))
  .rw [if_neg hl] at e;cases e
 .cases e
end
section
variable {X:Cx}{K:W.Frag}{H:Hp}{T:List CA}{O:Mem}{B:St}{G:List (Option W)}
theorem MS.chg (ms:MS K H T O B G){n:Nat}{a:Addr}{us vs:List V}{ws:List W}(ha:T[n]?=some (a,.lst))(hv:H a=some (.lst us))(t:DenWL K H T ws vs):MS K (upd H a (.lst vs)) T (O.set n ws) B G/\Kp H (upd H a (.lst vs)):=by
 have kp:Kp H (upd H a (.lst vs)):=by show Same _ _;rw[zN9 hv];exact Same.refl _
 have m:=ms.next kp (by rw[append_nil];exact ms.cells.change (by rw[<- ms.cells.len];exact(zzg ha).1) ha t)
 simp_all
noncomputable def putM (t k f:Mst->Option MR):Mst->Option OutM:=λs=>(f s).bind λr=>(t ⟨s.G,r.2⟩).bind λx=>(k ⟨s.G,x.2⟩).bind λj=>match x.1,j.1 with
 | .loc n,.dat (.int i)=>(j.2[n]?).bind λws=>(ixN ws.length i).bind λm=>some (.nx ⟨s.G,j.2.set n (ws.set m r.1)⟩)
 | _,_=>none
theorem zPb {b ke e:Expr}{t k f:Mst->Option MR}{pos spos:Pos}(hb:GM X b t)(hk:GM X ke k)(h:GM X e f)
  (ha:∀ v,assign (.Subscript b ke spos) X.env v=(do
   let ov<-holding [v] (eval b X.env)
   let iv<-holding [v,ov] (eval ke X.env)
   standAt spos
   holding [v,ov,iv] (setItem ov iv v)
   release [v,ov,iv] [])) (hs:swapsWithSole [.Subscript b ke spos] e pos.line X.env=pure false) (hw:swappedStores [.Subscript b ke spos] e X.env=pure none)
  (h1:(assignEach [.Subscript b ke spos] X.env).map (·.2)=[assign (.Subscript b ke spos) X.env]):GSM X (.Assign [.Subscript b ke spos] e pos) (putM t k f):=λH0 α0 =>
 (zRA h (zRB hb hk zLz ha) hs hw h1).imp λE B H zz104=>by
 obtain⟨M,s,o,ms,kp,e,p⟩:=zz104;obtain⟨r,er,e⟩:=bind_some e;obtain⟨x,ex,e⟩:=bind_some e;obtain⟨j,ej,e⟩:=bind_some e;split at e
 .rename_i n i en ei;obtain⟨ws,ew,e⟩:=bind_some e;obtain⟨m,em,e⟩:=bind_some e;cases e;refine⟨α0++M,s.G,s.O,r,ms,er,λy H1 M1 k1 c1 d1=>?_⟩;refine⟨α0++M++M1,s.G,r.2,x,ms.next k1 c1,ex,λv H2 M2 k2 c2 d2=>?_⟩;refine⟨α0++M++M1++M2,s.G,x.2,j,(ms.next k1 c1).next k2 c2,ej,λw H3 M3 k3 c3 d3=>?_⟩;rw[en,DenW] at d2;obtain⟨a,ga,rfl⟩:=d2;rw[ei,DenW,Den] at d3;have ms3:=((ms.next k1 c1).next k2 c2).next k3 c3;have ga3:=zCk (M:=M3) ga;obtain⟨vs,q2,q3⟩:=c3.loc' ga3 ew;refine⟨a,vs,i,m,rfl,d3,q2,by rw[<- q3.length];exact em,?_⟩;have dy:=(d1.mono k2 M2).mono k3 M3;obtain⟨m4,kp4⟩:=ms3.chg ga3 q2 (q3.set dy m);rw[show α0++M++M1++M2++M3=α0++(M++M1++M2++M3) by simp] at m4;exact p (M++M1++M2++M3) B _ m4 (kp.trans (k1.trans (k2.trans (k3.trans kp4))))
 .cases e
theorem DenWL.dropLast:∀ {ws:List W} {vs:List V},DenWL K H T ws vs->DenWL K H T ws.dropLast vs.dropLast
 | [],_,h=>by rw[DenWL] at h;subst h;exact .nil
 | [w],_,h=>by
  rw[DenWL] at h;obtain⟨v,us,rfl,h2,h3⟩:=h;rw[DenWL] at h3;subst h3;exact .nil
 | w::w2::ws,_,h=>by
  rw[DenWL] at h;obtain⟨v,us,rfl,h2,h3⟩:=h;have h3':=h3;rw[DenWL] at h3;obtain⟨v2,us2,rfl,_,_⟩:=h3;exact .cons h2 (DenWL.dropLast h3')
inductive Src where
 | items (ws:List W) | live (n:Nat)
noncomputable def itm (O:Mem):Src->Option (List W)
 | .items ws=>some ws
 | .live n=>O[n]?
def JOk (K:W.Frag)(J:It)(src:Src)(H1:Hp)(Y5:List CA):Prop :=
 ∀ (i:Nat) (H2:Hp) (P:List CA) (O2:Mem) (ws:List W),Kp H1 H2->zAD K H2 (Y5++P) O2->itm O2 src=some ws->(ws[i]?=none->J.stop i H2)/\∀ w,ws[i]?=some w->J.go i H2/\∀ v H3,J.yld i H2 v H3->H3=H2/\DenW K H2 (Y5++P) w v
def GIM (X:Cx)(tg iter:Expr)(g:Mst->Option (Src×Mem)):Prop:=∃ wi,PI X tg iter wi/\∀ (B:St) (H:Hp) (T:List CA) (G:List (Option W)) (O:Mem) (r:Src×Mem) (Rr:It->Hp->Prop),MS X.K H T O B G->g ⟨G,O⟩=some r ->
 (∀ J H1 M,Kp H H1->zAD X.K H1 (T++M) r.2->JOk X.K J r.1 H1 (T++M)->Rr J H1)->wi B H Rr
def GGM (X:Cx)(tg:Expr)(t:W->Mst->Option Mst):Prop:=∃ g,PG X tg g/\∀ (w:W) (v:V) (B:St) (H:Hp) (T:List CA) (s s':Mst) (Q:St->Hp->Prop),MS X.K H T s.O B s.G->DenW X.K H T w v->t w s=some s'->(∀ B',MS X.K H T s'.O B' s'.G->Q B' H)->g v B H Q
noncomputable def tgM (i:Nat):W->Mst->Option Mst:=λw s=>some ⟨s.G.set i (some w),s.O⟩
theorem zFY (hN:X.N.Nodup)(hi:X.N[i]?=some x)(hx:Loc X.env.scope x)(hf:X.fn x=true\/X.env.scope.names.lookup x=some .local):GGM X (.Name x pos) (tgM i) :=
 ⟨_,zFN hN hi hx hf,λw v B H T s s' Q ms hw e q=>by
  cases e;exact q _ (ms.set hw)⟩
noncomputable def forN (t:W->Mst->Option Mst)(b:Mst->Option OutM)(src:Src):Nat->Nat->Mst->Option OutM
 | 0,_,_=>none
 | f+1,i,s=>(itm s.O src).bind λws=>match ws[i]? with
  | none=>some (.nx s)
  | some w=>(t w s).bind λs1=>(b s1).bind λo=>match o with
   | .nx s'=>forN t b src f (i+1) s'
   | .ct s'=>forN t b src f (i+1) s'
   | .bk s'=>some (.nx s')
   | .rt r=>some (.rt r)
theorem zD3 :∀ {f i:Nat} {s:Mst} {o:OutM},forN t b src f i s=some o->forN t b src (f+1) i s=some o
 | 0,_,_,_,h=>by cases h
 | f+1,i,s,o,h=>by
  rw[forN] at h ⊢;obtain⟨ws,e1,h⟩:=bind_some h;rw[e1,qx];cases q:ws[i]? with
  | none=>rw[q] at h;exact h
  | some w =>
   rw[q] at h;dsimp only at h ⊢;obtain⟨s1,e2,h⟩:=bind_some h;obtain⟨o1,e3,h⟩:=bind_some h;rw[e2,qx,e3,qx];cases o1 with
   | nx s'=>exact zD3 (f:=f) h
   | ct s'=>exact zD3 (f:=f) h
   | bk s'=>exact h
   | rt r=>exact h
theorem zGG (h:forN t b src f i s=some o)(l:f<=g):forN t b src g i s=some o:=by
 induction g with
 | zero =>
      have:f=0:=by omega
      grind
 | succ g ih =>
  by_cases q:f<=g
  .exact zD3 (ih q)
  .grind
open Classical in
def zFZ (t:W->Mst->Option Mst)(b:Mst->Option OutM)(src:Src)(i:Nat)(s:Mst):Option OutM :=
 if h:∃ n o,forN t b src n i s=some o then some (Classical.choose (choose_spec h)) else none
theorem zMq (h:forN t b src n i s=some o):zFZ t b src i s=some o:=by
 have ex:∃ n o,forN t b src n i s=some o:=⟨n,o,h⟩;unfold zFZ;rw[dif_pos ex];have q2:=zGG h (Nat.le_max_right (Classical.choose ex) n);rw[zGG (choose_spec (choose_spec ex)) (Nat.le_max_left _ n)] at q2;omega
theorem zKd (h:zFZ t b src i s=some o):∃ n,forN t b src n i s=some o:=by
 unfold zFZ at h;by_cases ex:∃ n o,forN t b src n i s=some o
 .grind
 .simp_all
theorem zPc (hp:PassesOwn (model X.prog X.w) X.A X.env X.xe)(hc:X.calm=true)(hi:GIM X tg iter f)(hg:GGM X tg t)(hb:GSsM X body b)
  (hs:∀ x,foldedSetIterable iter X.env x=pure x):GSM X (.For tg iter body [] pos) (λs=>(f s).bind λr=>zFZ t b r.1 0 ⟨s.G,r.2⟩):=by
 intro H0 α0;obtain⟨wi,hwi,hI⟩:=hi;obtain⟨g,hg,hG⟩:=hg;intro pins s B H E I ⟨M,st,o,ms,kp,e,p⟩;obtain⟨r,er,e⟩:=bind_some e;obtain⟨N,eN⟩:=zKd e;refine(zNn (tb:=λE B H2=>∃ H1 Y5,gSM X.K H1 Y5 b E B H2) hp hc hwi hg ?_ hs) pins s B H E I ?_
 .intro pins s B H E I ⟨H1,Y5,q⟩;exact hb H1 Y5 pins s B H E I q
 refine hI B H (α0++M) st.G st.O r _ ms er λJ H1 M1 k1 c1 hJ=>?_
 refine⟨λi m B' H2=>∃ P s',MS X.K H2 (α0++M++M1++P) s'.O B' s'.G/\Kp H1 H2/\forN t b r.1 m i s'=some o,⟨N,[],⟨st.G,r.2⟩,by rw[append_nil];exact ms.next k1 c1,Kp.refl _,eN⟩,?_⟩;rintro i m B' H2 ⟨P,s',ms',k',e'⟩;cases m with
 | zero=>cases e'
 | succ m =>
  rw[forN] at e';obtain⟨ws,ew,e'⟩:=bind_some e';obtain⟨j1,j2⟩:=hJ i H2 P s'.O ws k' ms'.cells ew;have assoc:∀ P:List CA,α0++M++M1++P=α0++(M++M1++P):=λP=>by simp
  cases q:ws[i]? with
  | none =>
   rw[q] at e';cases e';rw[assoc] at ms';exact .inl ⟨j1 q,p _ B' H2 ms' (kp.trans (k1.trans k'))⟩
  | some w =>
   rw[q] at e';dsimp only at e';obtain⟨s1,e1,e'⟩:=bind_some e';obtain⟨o1,e2,e'⟩:=bind_some e';obtain⟨go,yl⟩:=j2 w q;refine .inr ⟨go,λB3 H3=>∃ P s',MS X.K H3 (α0++M++M1++P) s'.O B3 s'.G/\Kp H1 H3/\forN t b r.1 m (i+1) s'=some o,λB3 H3 z=>⟨m,Nat.lt_succ_self m,z⟩,λv H3 y=>?_⟩;obtain⟨rfl,hv⟩:=yl v H3 y;refine hG w v B' H3 _ s' s1 _ ms' hv e1 λB4 ms4=>⟨H1,α0++M++M1,P,s1,o1,ms4,k',e2,?_⟩
   cases o1 with
   | nx s2=>exact λP2 Y3 H4 m2 q2=>⟨P2,s2,m2,q2,e'⟩
   | ct s2=>exact λP2 Y3 H4 m2 q2=>⟨P2,s2,m2,q2,e'⟩
   | bk s2 =>
    cases e';intro P2 Y3 H4 m2 q2;rw[assoc] at m2;exact p _ Y3 H4 m2 (kp.trans (k1.trans q2))
   | rt z =>
    cases e';intro P2 v2 H4 c2 d2 q2;rw[assoc] at c2 d2;exact p _ v2 H4 c2 d2 (kp.trans (k1.trans q2))
end
section
variable {X:Cx}
noncomputable def srcM (f:Mst->Option MR):Mst->Option (Src×Mem):=λs=>(f s).bind λr=>match r.1 with
 | .loc n=>some (.live n,r.2)
 | .tup ws=>some (.items ws,r.2)
 | .dat (.tup ds)=>some (.items (ds.map .dat),r.2)
 | .dat (.lst ds)=>some (.items (ds.map .dat),r.2)
 | _=>none
theorem zPn (h:GM X iter f):GIM X tg iter (srcM f):=by
 refine⟨_,zNo h,λB H T G O z Rr ms e q=>?_⟩;obtain⟨r,er,e⟩:=bind_some e;refine⟨T,G,O,r,ms,er,λv H1 M k1 c1 d1=>?_⟩;have tupJ:∀ {a:Addr} {ws:List W} {vs:List V},SqT X.K (fzH H1) a vs->DenWL X.K H1 (T++M) ws vs->JOk X.K (Itt X.K a) (.items ws) H1 (T++M):=λ{a ws vs} sq dl i H2 P O2 ws' k2 c2 e2=>by
  cases e2;have sq2:SqT X.K H2 a vs:=Same.tupS zBI (Same.tupS k2 sq);refine⟨λn=>⟨vs,sq2,?_⟩,λw ew=>?_⟩
  .rw [<- dl.length];exact List.getElem?_eq_none_iff.mp n
  .obtain ⟨u,g1,g2⟩:=dl.get ew;refine⟨⟨vs,u,sq2,g1⟩,λv H3 y=>⟨y.1,?_⟩⟩;have:=y.2 vs sq2;rw[g1] at this;cases this;exact g2.mono k2 P
 have lstJ:∀ {a:Addr} {ws:List W} {vs:List V},SqL X.K (fzH H1) a vs->DenWL X.K H1 (T++M) ws vs->JOk X.K (Itl X.K a) (.items ws) H1 (T++M):=λ{a ws vs} sq dl i H2 P O2 ws' k2 c2 e2=>by
  cases e2;have sq2:SqL X.K H2 a vs:=zBI.seq (k2.seq sq);refine⟨λn=>⟨vs,sq2,?_⟩,λw ew=>?_⟩
  .rw [<- dl.length];exact List.getElem?_eq_none_iff.mp n
  .obtain ⟨u,g1,g2⟩:=dl.get ew;refine⟨⟨vs,u,sq2,g1⟩,λv H3 y=>⟨y.1,?_⟩⟩;have:=y.2 vs sq2;rw[g1] at this;cases this;exact g2.mono k2 P
 split at e
 .rename_i n en;cases e;rw[en,DenW] at d1;obtain⟨a,ga,rfl⟩:=d1;obtain⟨ws0,vs0,_,q2,_⟩:=c1.loc ga;refine⟨a,rfl,.inl ⟨⟨vs0,SqL.of q2⟩,q _ H1 M k1 c1 λi H2 P O2 ws k2 c2 e2=>?_⟩⟩;obtain⟨vs,g2,g3⟩:=c2.loc' (zCk (M:=P) ga) e2;have sq2:SqL X.K H2 a vs:=SqL.of g2;refine⟨λn=>⟨vs,sq2,?_⟩,λw ew=>?_⟩
  .rw [<- g3.length];exact List.getElem?_eq_none_iff.mp n
  .obtain ⟨u,g4,g5⟩:=g3.get ew;refine⟨⟨vs,u,sq2,g4⟩,λv H3 y=>⟨y.1,?_⟩⟩;have:=y.2 vs sq2;rw[g4] at this;cases this;exact g5
 .rename_i ws en;cases e;rw[en,DenW] at d1;obtain⟨a,vs,rfl,h2,h3⟩:=d1;exact⟨a,rfl,.inr ⟨⟨vs,SqT.of (zBI _ _ h2)⟩,q _ H1 M k1 c1 (tupJ (SqT.of h2) h3)⟩⟩
 .rename_i ds en;cases e;rw[en,DenW,Den] at d1;obtain⟨a,vs,rfl,h2,h3⟩:=d1;exact⟨a,rfl,.inr ⟨⟨vs,Same.tupS zBI h2⟩,q _ H1 M k1 c1 (tupJ h2 (DenWL.dats h3))⟩⟩
 .rename_i ds en;cases e;rw[en,DenW,Den] at d1;obtain⟨a,vs,rfl,h2,h3⟩:=d1;exact⟨a,rfl,.inl ⟨⟨vs,zBI.seq h2⟩,q _ H1 M k1 c1 (lstJ h2 (DenWL.dats h3))⟩⟩
 .cases e
noncomputable def zL0 (f:Mst->Option MR):Mst->Option (Src×Mem):=λs=>(f s).bind λr=>match r.1 with
 | .dat (.int j)=>if -(2^62)<=j/\j < 2^62 then some (.items ((rngL 0 j.toNat).map .dat),r.2) else none
 | _=>none
theorem rngJ {K:W.Frag}(lo:Int)(n:Nat):JOk K (Itr lo n) (.items ((rngL lo n).map .dat)) H1 Y5:=λi H2 P O2 ws k2 c2 e2=>by
 cases e2;have hl:((rngL lo n).map W.dat).length=n:=by unfold rngL;simp
 refine⟨λz=>?_,λw ew=>?_⟩
 .have:=List.getElem?_eq_none_iff.mp z;rw[hl] at this;exact this
 .have hi:i < n:=by rw[<- hl];exact(zzg ew).1
  refine⟨hi,λv H3 y=>⟨y.1,?_⟩⟩;have:((rngL lo n).map W.dat)[i]?=some (.dat (.int (lo+i))):=by unfold rngL;simp[hi]
  rw[this] at ew;cases ew;exact y.2
theorem zIg (hg:Gl X "range")(hm:X.mg "range"=none)(h:GM X a f)(hs:starEach [a] X.env=[(false,eval a X.env)]):GIM X tg (.Call (.Name "range" p) [a] [] pos) (zL0 f):=by
 refine⟨_,zFy hg hm (zAU h zA1 hs) hs,λB H T G O z Rr ms e q=>?_⟩;obtain⟨r,er,e⟩:=bind_some e;split at e
 .rename_i j ej;by_cases hj:-(2^62)<=j/\j < 2^62
  .rw [if_pos hj] at e;cases e;refine⟨T,G,O,r,ms,er,λv H1 M k1 c1 d1=>⟨j,?_,hj.1,hj.2,q _ H1 M k1 c1 (rngJ 0 _)⟩⟩
   simp_all
   rw[d1]
  .simp_all
 .cases e
noncomputable def zTa (f g:Dst->Option R):Mst->Option (Src×Mem):=λs=>(zL1 f g (drS s.O s.G)).map λds=>(.items (ds.map .dat),s.O)
end
noncomputable def zAw (np nN:Nat)(g:Mst->Option OutM):MF:=λws O =>
 if ws.length=np/\np<=nN then (g ⟨ws.map some++List.replicate (nN - np) none,O⟩).bind λo=>match o with
  | .rt r=>some r
  | .nx s=>some (.dat .non,s.O)
  | _=>none
 else none
theorem zHj {K:W.Frag}(c:zAD K H T O)(h:DenWL K H T ws vs)(hl:ws.length<=N.length):MS K H T O (zBt N vs) (ws.map some++List.replicate (N.length - ws.length) none):=by
 have el:=h.length;refine⟨c,?_,λi w q=>?_⟩
 .unfold L2.zBt;grind
 .have hi:i < ws.length:=by
   by_cases z:i < ws.length
   .exact z
   .rw [getElem?_append_right (by simpa using z),getElem?_replicate] at q;split at q<;>cases q
  rw[getElem?_append_left (by simpa using hi),getElem?_map] at q;cases e:ws[i]? with
  | none=>rw[e] at q;cases q
  | some w' =>
   rw[e] at q;cases q;obtain⟨v,q1,q2⟩:=h.get e;refine⟨v,?_,q2⟩;unfold L2.zBt;rw[getElem?_append_left (by grind),getElem?_map,q1]
   rfl
theorem zPz {K:W.Frag}{st:Stmt}(F:Fun K x qual st f fd)(S:zAX N ps (zAA st))
  (hbody:∀ (cdv:Value) (A:Around) (outer:List Env) (s:Shared) (H:Hp) (E:XK),Room k (A.deeper (envOfC qual (zAA st) s.heap.objs.size f cdv))->GSsM (cxOf CX0 P w K mg base N qual (zAA st) f cdv A outer s H E).nox (zAE st) g) :
  FnOk P w K mg base CX0 (k+1) f fd ps (spM K (zAw ps.length N.length g)):=by
 refine F.ok S (λvs H Q E h=>?_) λcdv A outer s H vs Q E hr h=>?_
 .obtain ⟨T,O,ws,r,c,d,hF,n⟩:=h;unfold zAw at hF;by_cases q:ws.length=ps.length/\ps.length<=N.length
  .rw [<- d.length];exact q.1
  .simp_all
 obtain⟨T,O,ws,r,c,d,hF,n⟩:=h;refine⟨_,hbody cdv A outer s H E hr H T,?_⟩;unfold zAw at hF;by_cases q:ws.length=ps.length/\ps.length<=N.length
 .rw [if_pos q] at hF;obtain⟨o,eo,hF⟩:=bind_some hF;rw[<- q.1] at eo;refine⟨[],_,o,by rw[append_nil];exact zHj c d (by rw[q.1];exact q.2),Kp.refl H,eo,?_⟩;cases o with
  | nx s' =>
   cases hF;exact λM B' H' m k=>n _ H' M k m.cells (by rw[DenW,Den])
  | rt r' =>
   cases hF;exact λM v H' c' d' k=>n v H' M k c' d'
  | bk _=>cases hF
  | ct _=>cases hF
 .simp_all
theorem walkM {l:W.OpenLaw}{K:Params->W.Frag}(hn:l.most=some 63)(hdf:d.params.defaults=[])(hq:importsNone q=true)(ht:∀ w,(model l.prog w).prog.given.tree=none)(hr:Room k callerA)(tl:List (Str×Addr×Addr))(hrec:∀ (w:World) (h:Heap),YP w h->∀ t∈tl,W.CodeHd h t.2.1 t.2.2/\h.get? t.2.2=some (W.tabObj #[]))(htl:∀ w:World,∀ x∈zBg,tabQ (K w.params) x=tl.lookup x)(htk:∀ t∈tl,t.1∈zBg/\tl.lookup t.1=some t.2)(hnd:(tl.map λt=>t.2.2).Nodup)(hnt:∀ w:World,W.noTabs (K w.params)=true)
  (hY:∀ (w:World) (h:Heap),YP w h->(K w.params).In h)
  (FF:∀ (w:World) (mg:Str->Option Value) (fa:Addr) (h:Heap),(K w.params).In h->h.Ns mainGlobals mg->mg d.name=some (.ref fa) ->
   ∃ fd:FuncData,(∀ (s:Shared) (u:Value),BindsTo s fd ⟨[u],[]⟩ [("_law_script",u)])/\∀ base:Heap,(K w.params).In base->base.Ns mainGlobals mg->FnOk l.prog w (K w.params) mg base CX0 k fa fd ["_law_script"] (spM (K w.params) F))
  (tr:∀ ns:List Int,ns.length<=63->∃ O,F [.dat (.lst (ns.map D.int))] []=some (.dat (.bl true),O)) :
  W.WalkO q loose XP YP l.row.toRowW d [] (λf vs=>PySem.call f vs) :=
 L2.zOT (n:=63) (k:=k) (CX:=λ_=>CX0) hn (by decide) hdf hq ht hr tl hrec htl htk hnd hnt hY FF (λw H a ns hl hO hS=>by
   obtain⟨O,eF⟩:=tr ns hl.1;have sq:SqL (K w.params) (fzH H) a (ns.map V.int):=by
    rcases hS with (h | ⟨o,h⟩) | h
    .exact (hO _ h).elim
    .exact .inl (.inr ⟨o,zEl h⟩)
    .exact .inr h
   refine⟨[],[],[.dat (.lst (ns.map D.int))],_,⟨rfl,by simp,λn ws z=>by simp at z⟩,.cons ?_ .nil,eF,λv H' M k c d=>?_⟩
   .rw [DenW,Den];exact⟨a,_,rfl,sq,DenL.ints ns⟩
   .rw [DenW,Den] at d;exact d) λ_ _ _ _ _ z=>z
end DL
end
section
namespace DL
open PySem Spec PyProof.Rows L2
noncomputable def zBV (t:W->Mst->Option Mst)(e:Mst->Option MR)(src:Src):Nat->Nat->Mst->List W->Option MA
 | 0,_,_,_=>none
 | f+1,i,s,done=>(itm s.O src).bind λws=>match ws[i]? with
  | none=>some (done,s.O)
  | some w=>(t w s).bind λs1=>(e s1).bind λr=>if done.length<=10000 then zBV t e src f (i+1) ⟨s1.G,r.2⟩ (done++[r.1]) else none
theorem zEr :∀ {f i:Nat} {s:Mst} {d:List W} {o:MA},zBV t e src f i s d=some o->zBV t e src (f+1) i s d=some o
 | 0,_,_,_,_,h=>by cases h
 | f+1,i,s,d,o,h=>by
  rw[zBV] at h ⊢;obtain⟨ws,e1,h⟩:=bind_some h;rw[e1,qx];cases q:ws[i]? with
  | none=>rw[q] at h;exact h
  | some w =>
   rw[q] at h;dsimp only at h ⊢;obtain⟨s1,e2,h⟩:=bind_some h;obtain⟨r,e3,h⟩:=bind_some h;rw[e2,qx,e3,qx];by_cases l:d.length<=10000
   .rw [if_pos l] at h ⊢;exact zEr (f:=f) h
   .rw [if_neg l] at h;cases h
theorem zEs (h:zBV t e src f i s d=some o)(l:f<=g):zBV t e src g i s d=some o:=by
 induction g with
 | zero =>
      have:f=0:=by omega
      grind
 | succ g ih =>
  by_cases q:f<=g
  .exact zEr (ih q)
  .grind
open Classical in
def zGL (t:W->Mst->Option Mst)(e:Mst->Option MR)(src:Src)(s:Mst):Option MA :=
 if h:∃ n o,zBV t e src n 0 s []=some o then some (Classical.choose (choose_spec h)) else none
theorem zLO (h:zBV t e src n 0 s []=some o):zGL t e src s=some o:=by
 have ex:∃ n o,zBV t e src n 0 s []=some o:=⟨n,o,h⟩;unfold zGL;rw[dif_pos ex];have q2:=zEs h (Nat.le_max_right (Classical.choose ex) n);rw[zEs (choose_spec (choose_spec ex)) (Nat.le_max_left _ n)] at q2;omega
theorem zIn (h:zGL t e src s=some o):∃ n,zBV t e src n 0 s []=some o:=by
 unfold zGL at h;by_cases ex:∃ n o,zBV t e src n 0 s []=some o
 .grind
 .rw [dif_neg ex] at h;cases h
def zHK (ms:List Nat)(k:Nat)(f:Mst->Option (Src×Mem))(t:W->Mst->Option Mst)(e:Mst->Option MR):Mst->Option MR:=λs =>
 (f s).bind λz=>(zGL t e z.1 ⟨mask none ms s.G++List.replicate k none,z.2⟩).bind λy=>if y.1.length<=10000 then some (.loc y.2.length,y.2++[y.1]) else none
theorem zGM (h:zHK ms k f t e s=some r):∃ z y N,f s=some z/\zBV t e z.1 N 0 ⟨mask none ms s.G++List.replicate k none,z.2⟩ []=some y/\y.1.length<=10000/\r=(.loc y.2.length,y.2++[y.1]):=by
 obtain⟨z,e1,h⟩:=bind_some h;obtain⟨y,e2,h⟩:=bind_some h;obtain⟨N,eN⟩:=zIn e2;by_cases l:y.1.length<=10000
 .rw [if_pos l] at h;cases h;exact⟨z,y,N,e1,eN,l,rfl⟩
 .simp_all
theorem MS.ext {K:W.Frag}(h:MS K H T O B G)(ms:List Nat)(k:Nat):MS K H T O (mask none ms B++List.replicate k none) (mask none ms G++List.replicate k none):=by
 refine⟨h.cells,by rw[qQ,qQ,zAy,zAy,h.len,length_replicate,length_replicate],λi w q=>?_⟩;obtain⟨q,hi⟩:=zB5 q;rcases zBK q with ⟨z,_⟩ | ⟨q,ni⟩
 .cases z
 .obtain ⟨v,w1,w2⟩:=h.get i w q;exact⟨v,by rw[getElem?_append_left (by rw[zAy] at hi ⊢;rw[h.len];exact hi),zFU ni];exact w1,w2⟩
theorem zNI :∀ {n i:Nat} {s:Mst} {d:List W} {y:MA},zBV t e src n i s d=some y->y.1.length<=10000->d.length<=10000
 | 0,_,_,_,_,h,_=>by cases h
 | n+1,i,s,d,y,h,l=>by
  rw[zBV] at h;obtain⟨ws,_,h⟩:=bind_some h;split at h
  .cases h;exact l
  .obtain ⟨_,_,h⟩:=bind_some h;obtain⟨_,_,h⟩:=bind_some h;split at h
   .assumption
   .cases h
section
variable {X:Cx}
theorem zEq (hcalm:X.calm=true)(hi:GIM X tg iter f)(cs:zCB X.env.scope scope)
  (hm:∀ (i:Nat) x,X.N[i]?=some x->ownB scope x=true->i∈ms)
  (hg:∀ s H fp,GGM (zAR X (mask (noN X.N) ms X.N++xs) scope s H fp) tg t)
  (he:∀ s H fp,GM (zAR X (mask (noN X.N) ms X.N++xs) scope s H fp) elt e)
            (I:Inv X pins B H s) (mst:MS X.K H T O B G) (ez:f ⟨G,O⟩=some z) (hyl:y.1.length<=10000) (ey:zBV t e z.1 NN 0 ⟨mask none ms G++List.replicate xs.length none,z.2⟩ []=some y)
  {RR:Value->Addr->Result->Shared->Prop}
  (fin:∀ (D C:Addr) (s1:Shared) (H'':Hp) (m:Str->Option Value),s1.heap.Ns C m->(∀ h',Heap.SameBut C s1.heap h'->Inv X pins B H'' { s1 with heap:=h' })->H'' C=none->C≠X.env.locals->C∉X.fs->X.s0.heap.objs.size<=C ->
   (∀ x c,X.env.cells.lookup x=some c->c≠C)->(∀ p∈X.pn++pins,p.1≠C)->(∃ M,Kp H H''/\zAD X.K H'' (T++M) (y.2++[y.1])/\DenW X.K H'' (T++M) (.loc y.2.length) (.ref D))->RR (.ref D) C (.ok .next) s1) :
  wpAny (model X.prog X.w) X.A (eval iter X.env) (λx O3=>wpAny (model X.prog X.w) X.A (pyIter x) (λit O8=>wpAny (model X.prog X.w) X.A (newList []) (λacc Y2 =>
   wpAny (model X.prog X.w) X.A (newFunctionEnv scope X.env.globals (zBh X.env scope.names []) [] X.env.qual none .none (some X.env)) (λcenv Y4 =>
    codeAny (model X.prog X.w) X.A (.compStart (.ListComp elt [⟨tg,iter,[],0⟩] scope pos) 0 it acc { cenv with scope:=relabel scope X.env }) (RR acc cenv.locals) Y4) X.xe Y2) X.xe O8) X.xe O3) X.xe s:=by
 obtain⟨wi,hwi,hI⟩:=hi;refine zH7 hcalm hwi cs hm I (L:=λJ H2 n i B' H' vs=>∃ (M0 P:List CA) (st':Mst) (done:List W),(Kp H H2/\JOk X.K J z.1 H2 (T++M0))/\MS X.K H' (T++M0++P) st'.O B' st'.G/\Kp H2 H'/\DenWL X.K H' (T++M0++P) done vs/\done.length<=10000/\zBV t e z.1 n i st' done=some y)
  (Z:=λH2 H' vs=>∃ (M0 P:List CA),Kp H H2/\Kp H2 H'/\zAD X.K H' (T++M0++P) y.2/\DenWL X.K H' (T++M0++P) y.1 vs)
  (hI B H T G O z _ mst ez λJ H1 M k1 c1 hJ=>⟨NN,M,[],⟨mask none ms G++List.replicate xs.length none,z.2⟩,[],⟨k1,hJ⟩,by rw[append_nil];exact(mst.next k1 c1).ext ms xs.length,Kp.refl _,.nil,zero_le _,ey⟩) (λ{J H2 n i B' H' vs} ll=>?_) (λ{J H2 n i B' H' vs} s3 fp ll=>?_) λD C s1 H'' m h1 h2 h3 h4 h5 h6 h7 h8 ll=>?_
 .obtain ⟨_,_,_,_,_,_,_,dn,hl,_⟩:=ll;rw[<- dn.length];exact hl
 .obtain ⟨M0,P,st0,done,⟨k12,hJ⟩,ds',sm,dn,hl,ec⟩:=ll;cases n with
  | zero=>cases ec
  | succ n =>
  rw[zBV] at ec;obtain⟨ws,ew,ec⟩:=bind_some ec;obtain⟨j1,j2⟩:=hJ i H' P st0.O ws sm ds'.cells ew;cases hq:ws[i]? with
  | none =>
   rw[hq] at ec;cases ec;exact .inl ⟨j1 hq,M0,P,k12,sm,ds'.cells,dn⟩
  | some w0 =>
   rw[hq] at ec;dsimp only at ec;obtain⟨go,yl⟩:=j2 w0 hq;refine .inr ⟨n,Nat.lt_succ_self n,go,λx H5 y5=>?_⟩;obtain⟨rfl,hv⟩:=yl x H5 y5;refine⟨rfl,λY eY pn s5 u E I5 r5=>?_⟩;subst eY;obtain⟨st1,e1,ec⟩:=bind_some ec;obtain⟨r,er,ec⟩:=bind_some ec;by_cases hdl:done.length<=10000
   case neg=>rw[if_neg hdl] at ec;cases ec
   rw[if_pos hdl] at ec;have hd2:(done++[r.1]).length<=10000:=zNI ec hyl;obtain⟨g,hg1,hg2⟩:=hg s3 H2 fp;refine wpAny_mono (hg1 pn s5 B' H5 x u _ I5 r5 (hg2 w0 x B' H5 (T++M0++P) st0 st1 (λB6 H6=>H6=H5/\MS X.K H5 (T++M0++P) st1.O B6 st1.G) ds' hv e1 λB6 d6=>⟨rfl,d6⟩)) (λ_ s6 zz105=>?_) λ_ _ z=>z.elim
   obtain⟨B6,H6,I6,q6,ds6⟩:=zz105;subst q6;refine wpAny_tests_nil ?_;rw[if_pos rfl];refine wpAny_mono (he s3 H2 fp pn s6 B6 H6 (λv H8=>∃ P2,Kp H6 H8/\zAD X.K H8 (T++M0++P++P2) r.2/\DenW X.K H8 (T++M0++P++P2) r.1 v) I6 ⟨T++M0++P,st1.G,st1.O,r,ds6,er,λv H8 P2 k8 c8 d8=>⟨P2,k8,c8,d8⟩⟩) (λuv s8 zz106=>?_) λ_ _ z=>z.elim
   obtain⟨v,H8,I8,rv8,P2,k8,c8,d8⟩:=zz106;have assoc:T++M0++P++P2=T++M0++(P++P2):=by simp
   have ms8:=ds6.next k8 c8;have dn8:=dn.mono k8 P2;rw[assoc] at ms8 d8 dn8;exact⟨v,B6,H8,I8,rv8,M0,P++P2,⟨st1.G,r.2⟩,done++[r.1],⟨k12,hJ⟩,ms8,sm.trans k8,DenWL.append dn8 (.cons d8 .nil),hd2,ec⟩
 .obtain ⟨H2,H',vs,⟨M0,P,k12,sm,dc,dn⟩,H2D,HD,rfl⟩:=ll;have s9:Same H' (upd H' D (.lst vs)):=zAQ HD _;refine fin D C s1 _ m h1 h2 h3 h4 h5 h6 h7 h8 ⟨M0++P++[(D,CK.lst)],k12.trans (sm.trans (zAi s9)),?_⟩;rw[show T++(M0++P++[(D,CK.lst)])=T++M0++P++[(D,CK.lst)] by simp];exact⟨dc.new s9 HD zAP (dn.mono (zAi s9) [(D,CK.lst)]),zDu dc⟩
theorem zKT (hcalm:X.calm=true)(hi:GIM X tg iter f)(hs:∀ x,foldedSetIterable iter X.env x=pure x)(cs:zCB X.env.scope scope)
  (hm:∀ (i:Nat) x,X.N[i]?=some x->ownB scope x=true->i∈ms)
  (hg:∀ s H fp,GGM (zAR X (mask (noN X.N) ms X.N++xs) scope s H fp) tg t)
  (he:∀ s H fp,GM (zAR X (mask (noN X.N) ms X.N++xs) scope s H fp) elt e) :
  GM X (.ListComp elt [⟨tg,iter,[],0⟩] scope pos) (zHK ms xs.length f t e):=by
 intro pins s B H Q I ⟨T,G,O,r,mst,er,cc⟩;obtain⟨z,y,NN,ez,ey,hyl,rfl⟩:=zGM er;refine wpAny_comprehension_free rfl hs (zBL (zEC I cs)) cs.kind (zCX cs) ?_;refine zEq hcalm hi cs hm hg he I mst ez hyl ey λD C s1 H'' m ns hI _ _ _ _ _ _ fin=>?_
 obtain⟨M,k,c1,d1⟩:=fin;exact⟨m,ns,λh' sb=>⟨.ref D,H'',hI h' sb,rfl,cc _ H'' M k c1 d1⟩⟩
end
end DL
end
section
namespace DL
open PySem Spec PyProof.Rows L2
section
variable {X:Cx}
theorem zMg (hcalm:X.calm=true)(hi:GIM X tg iter f)(hs:∀ x,foldedSetIterable iter X.env x=pure x)(cs:zCB X.env.scope scope)
  (hm:∀ (i:Nat) x,X.N[i]?=some x->ownB scope x=true->i∈ms)
  (hg:∀ s H fp,GGM (zAR X (mask (noN X.N) ms X.N++xs) scope s H fp) tg t)
  (he:∀ s H fp,GM (zAR X (mask (noN X.N) ms X.N++xs) scope s H fp) elt e)
  (hN:X.N.Nodup) (hy:X.N[i]?=some y) (hl:Loc X.env.scope y) (hf:X.fn y=true\/X.env.scope.names.lookup y=some .local) :
  GSM X (.Assign [.Name y py] (.ListComp elt [⟨tg,iter,[],0⟩] scope pos) spos) (setM i (zHK ms xs.length f t e)):=by
 have hge:GM X (.ListComp elt [⟨tg,iter,[],0⟩] scope pos) (zHK ms xs.length f t e):=zKT hcalm hi hs cs hm hg he;have hb:∃ b,swapsWith (.ListComp elt [⟨tg,iter,[],0⟩] scope pos) (some (.Name y py)) spos.line X.env=pure b:=⟨_,rfl⟩;obtain⟨b,hb⟩:=hb;cases b with
 | false=>exact zKQ hN hy hl hge hb hf
 | true =>
  intro H0 α0 pins s B H E I ⟨M,st,o,mst,kp,eo,p⟩;obtain⟨r,er,eo⟩:=bind_some eo;cases eo;obtain⟨z,yy,NN,ez,ey,hyl,rfl⟩:=zGM er;rw[exec_Assign_Name_used _ _ _ _ hb];refine qX (wpAny_standAt (qX ?_));show wpAny _ X.A (do let _<-comprehension (.ListComp elt [⟨tg,iter,[],0⟩] scope pos) scope X.env _ (newList []) false (eval iter X.env) (some (assign (.Name y py) X.env))) _ _ s;refine qX (wpAny_mono (wpAny_comprehension_free (use:=some (assign (.Name y py) X.env)) (Q:=λ_ s'=>SP X pins E .next s') rfl hs (zBL (zEC I cs)) cs.kind (zCX cs) ?_) (λ_ s' hq=>xy (xy hq)) λ_ _ e=>e);refine zEq (RR:=λacc C=>compPost (model X.prog X.w) X.A X.xe (some (assign (.Name y py) X.env)) (λ_ s'=>SP X pins E .next s') acc C) hcalm hi cs hm hg he I mst ez hyl ey λD C s1 H'' m ns hI hC1 hC2 hC3 hC4 hC5 hC6 fin=>?_
  have I1:Inv X pins B H'' s1:=hI s1.heap (Heap.SameBut.refl ..);obtain⟨oC,es,ep,ho,hd,w3⟩:=id ns;have I2:Inv X (pins++[(C,oC)]) B H'' s1:=I1.pins_of λq hq=>(mem_append.mp hq).elim (λz=>I1.pin q (xj _ z)) λz=>by
   have e:q=(C,oC):=by simpa using z
   subst e;exact⟨ho,hC1,hC2,hC3,λv z=>by rw[hd] at z;cases z⟩
  show wpAny (model X.prog X.w) X.A (assign (.Name y py) X.env (.ref D)) _ X.xe s1;refine thn (zFN hN hy hl hf _ s1 B H'' (.ref D) (.ref D) (λB6 H6=>H6=H''/\B6=B.set i (some (.ref D))) I2 rfl ⟨rfl,rfl⟩) λ_ s6 zz107=>?_
  obtain⟨B6,H6,I6,q1,q2⟩:=zz107;subst q1 q2;have pc:=I6.pin (C,oC) (xj _ (xj _ (by simp)));refine⟨m,⟨oC,es,ep,pc.1,hd,w3⟩,λh' sb=>?_⟩;refine⟨_,H6,I6.unpinned.turned (it:=C) (t':=s6.toks) (λb o hb q=>sb.extBut b o hb q) hC1 (Ne.symm (Ne.symm hC2)) (.inr hC4) hC5 hC6,?_⟩;obtain⟨M2,k2,c2,d2⟩:=fin;have m2:=(mst.next k2 c2).set (i:=i) d2;rw[q0] at m2;exact p (M++M2) _ _ m2 (kp.trans k2)
end
inductive SK where
 | mth (c m:Str) | mk (c kw:Str)
 deriving DecidableEq
noncomputable def spec:List (Str×SK):=[("Fill.films",.mth "Fill" "films"),("Rub.films",.mth "Rub" "films"),("Masked.films",.mth "Masked" "films"),("Join.films",.mth "Join" "films"),("Group.films",.mth "Group" "films"),("Picture.add",.mth "Picture" "add"),("Picture.drop",.mth "Picture" "drop"),("Picture.change",.mth "Picture" "change"),("Picture.lift",.mth "Picture" "lift"),("Picture.numbers",.mth "Picture" "numbers"),("Picture.layer_by",.mth "Picture" "layer_by"),("Picture.renew",.mth "Picture" "renew"),("Picture.cells",.mth "Picture" "cells"),("Picture.check_lies",.mth "Picture" "check_lies"),("Picture.lay",.mth "Picture" "lay"),("Picture.mark",.mth "Picture" "mark"),("Picture.ground_at",.mth "Picture" "ground_at"),("Fill()",.mk "Fill" "strength"),("Rub()",.mk "Rub" "strength"),("Masked()",.mk "Masked" "strength"),("Join()",.mk "Join" "strength"),("Group()",.mk "Group" "strength"),("Picture()",.mk "Picture" "watcher")]
abbrev Dm:=List (Str×MF)
def spI (K:W.Frag)(C:Addr)(F:MF):Sp:=λvs H Q _=>∃ x dx H1 us T O ws r,vs=.ref x::us/\H1 x=none/\H1 dx=none/\dx≠x/\H=upd (upd H1 dx (.own x)) x (.ins C dx [])/\zAD K H1 T O/\DenWL K H1 T ws us/\F ws O=some r /\
 ∀ H' M,Kp H1 H'->zAD K H' (T++M) r.2->DenW K H' (T++M) r.1 (.ref x)->Q .non H'
def KB (K:W.Frag)(fd:FuncData)(ps:List Str)(kw:Str):Prop:=∀ (s:Shared) (us:List Value) (u:Value),K.In s.heap->(us++[u]).length=ps.length->BindsTo s fd ⟨us,[(kw,u)]⟩ (ps.zip (us++[u]))
def zLk (P:Program)(w:World)(K:W.Frag)(mg:Str->Option Value)(base:Heap)(k:Nat)(x:Str)(F:MF):Option SK->Prop
 | none=>∃ f fd ps,FnOk P w K mg base CX0 k f fd ps (spM K F)/\mg x=some (.ref f)/\W.keepIn K (.ref f)=true/\zBA K fd ps []
 | some (.mth c m)=>∃ C f fd ps,zB6 K c C/\Cls K C/\Meth K C m f/\FnOk P w K mg base CX0 k f fd ps (spM K F)/\zBA K fd ps []
 | some (.mk c kw)=>∃ j C f fd ps,j < k/\mg c=some (.ref C)/\Mk K C f/\FnOk P w K mg base CX0 j f fd ps (spI K C F)/\zBA K fd ps []/\zBA K fd ps [.none]/\KB K fd ps kw
theorem zLk.mono {K:W.Frag}(h:zLk P w K mg base j x F o)(e:j<=k):zLk P w K mg base k x F o:=by
 match o,h with
 | none,⟨f,fd,ps,h1,h2⟩=>exact⟨f,fd,ps,h1.mono e,h2⟩
 | some (.mth c m),⟨C,f,fd,ps,h1,h2,h3,h4,h5⟩=>exact⟨C,f,fd,ps,h1,h2,h3,h4.mono e,h5⟩
 | some (.mk c kw),⟨i,C,f,fd,ps,h1,h2⟩=>exact⟨i,C,f,fd,ps,xY h1 e,h2⟩
def DmOk (P:Program)(w:World)(K:W.Frag)(mg:Str->Option Value)(base:Heap)(k:Nat)(U:Dm):Prop :=
 ∀ x F,(x,F)∈U->zLk P w K mg base k x F (spec.lookup x)
theorem zHL {K:W.Frag}(h1:zB6 K c A)(h2:zB6 K c B):A=B:=by
 rw[zB6] at h1 h2;grind
theorem zLC (h:zD7 gs=true)(n:zFT.contains m=false):gs.lookup m=none:=by
 cases e:gs.lookup m with
 | none=>rfl
 | some v =>
  unfold zD7 zLD at h;rw[x9,all_eq_true] at h;have:=h.2 m (mem_map.mpr ⟨_,PySem.mem_of_lookup e,rfl⟩);grind
section
variable {X:Cx}{k:Nat}{U:Dm}
noncomputable def fldM (ob:List (Str×Str×Option Bool))(f:Str)(g:Mst->Option MR):Mst->Option MR:=λs=>(g s).bind λx=>match x.1 with
 | .obj c ns l=>if (c,f,none)∈ob then ((ns.zip l).lookup f).map λw=>(w,x.2) else none
 | .ob c ns n=>if (c,f,none)∈ob then (x.2[n]?).bind λws=>((ns.zip ws).lookup f).map λw=>(w,x.2) else none
 | _=>none
theorem zJu {K:W.Frag}{H:Hp}{T:List CA}{f:Str}{w:W}:∀ {gs:List (Str×V)} {l:List W},DenWL K H T l (gs.map (·.2))->((gs.map (·.1)).zip l).lookup f=some w->∃ v,gs.lookup f=some v/\DenW K H T w v
 | [],_,_,e=>by simp at e
 | (n,u)::gs,[],_,e=>by simp at e
 | (n,u)::gs,x::l,t,e=>by
  rw[map_cons,DenWL] at t;obtain⟨v,us,e1,t1,t2⟩:=t;cases e1;rw[map_cons,List.zip_cons_cons,lookup_cons] at e;rw[lookup_cons];dsimp only at e ⊢;by_cases q:(f==n)=true
  .rw [q] at e ⊢;cases e;exact⟨u,rfl,t1⟩
  .rw [Bool.not_eq_true] at q;rw[q] at e ⊢;exact zJu t2 e
theorem zHr {K:W.Frag}{gs:List (Str×V)}:∀ {ns:List Str} {vs:List V} {l:List W},(ns.map λn=>gs.lookup n)=vs.map some->DenWL K H T l vs->(ns.zip l).lookup f=some d->∃ v,gs.lookup f=some v/\DenW K H T d v
 | [],_,_,_,_,e=>by simp at e
 | n::ns,vs,[],_,_,e=>by simp at e
 | n::ns,vs,x::l,h,t,e=>by
  rw[DenWL] at t;obtain⟨v,us,rfl,t1,t2⟩:=t;simp only[map_cons,List.cons.injEq] at h;rw[List.zip_cons_cons,lookup_cons] at e;by_cases q:(f==n)=true
  .rw [q] at e;cases e;exact⟨v,by rw[eq_of_beq q];exact h.1,t1⟩
  .rw [Bool.not_eq_true] at q;rw[q] at e;exact zHr h.2 t2 e
theorem zSL (ha:GM X e g)(hb:attributeBase e fl X.env (eval e X.env)=eval e X.env)(ho:∀ c,(c,fl,none)∈ob->∀ C,zB6 X.K c C->Cls X.K C/\zBE X.K C fl):GM X (.Attribute e fl pos) (fldM ob fl g):=by
 refine(zNr ha hb).imp λB H Q zz108=>?_
 obtain⟨T,G,O,r,ms,q,cc⟩:=zz108;obtain⟨x,ex,q⟩:=bind_some q;split at q
 .rename_i c ns l hx;by_cases m:(c,fl,none)∈ob
  .rw [if_pos m] at q;obtain⟨w,e1,e2⟩:=yq.mp q;cases e2;refine⟨T,G,O,x,ms,ex,λv H1 M k1 c1 dv=>?_⟩;have dv':=dv;rw[hx,DenW] at dv';obtain⟨a,vs,rfl,⟨C,dx,gs,h1,h2,h3,h4⟩,h5⟩:=dv';obtain⟨u,q1,q2⟩:=zHr h4 h5 e1;obtain⟨o1,o2⟩:=ho c m C h3;exact⟨a,C,dx,gs,u,rfl,zBI _ _ h1,o1,o2,q1,cc u H1 M k1 c1 q2⟩
  .rw [if_neg m] at q;cases q
 .rename_i c ns n hx;by_cases m:(c,fl,none)∈ob
  .rw [if_pos m] at q;obtain⟨ws,e0,q⟩:=bind_some q;obtain⟨w,e1,e2⟩:=yq.mp q;cases e2;refine⟨T,G,O,x,ms,ex,λv H1 M k1 c1 dv=>?_⟩;rw[hx,DenW] at dv;obtain⟨a,ha,rfl⟩:=dv;obtain⟨C,dx,gs,h1,h2,h3,h4,h5⟩:=c1.cell' ha e0;subst h4;obtain⟨u,q1,q2⟩:=zJu h5 e1;obtain⟨o1,o2⟩:=ho c m C h3;exact⟨a,C,dx,gs,u,rfl,h1,o1,o2,q1,cc u H1 M k1 c1 q2⟩
  .rw [if_neg m] at q;cases q
 .cases q
noncomputable def clsW (m:Str):W->Option Str
 | .obj c _ _=>if zFT.contains m=true then none else some c
 | .ob c ns _=>if ns.contains m=true then none else some c
 | _=>none
theorem zOM {K:W.Frag}(cc:zAD K H T O)(h:clsW m w=some c)(d:DenW K H T w v):∃ a C dx gs,v=.ref a/\H a=some (.ins C dx gs)/\zB6 K c C/\gs.lookup m=none:=by
 unfold clsW at h;split at h
 .by_cases q:zFT.contains m=true
  .rw [if_pos q] at h;cases h
  rw[if_neg q] at h;cases h;obtain⟨a,vs,rfl,⟨C,dx,gs,h1,h2,h3,h4⟩,h5⟩:=d;exact⟨a,C,dx,gs,rfl,zBI _ _ h1,h3,zLC h2 (by simpa using q)⟩
 .rename_i c' ns n;by_cases q:ns.contains m=true
  .rw [if_pos q] at h;cases h
  rw[if_neg q] at h;cases h;rw[DenW] at d;obtain⟨a,ha,rfl⟩:=d;obtain⟨ws,e0,C,dx,gs,h1,h2,h3,h4,h5⟩:=cc.cell ha;refine⟨a,C,dx,gs,rfl,h1,h3,?_⟩;cases e:gs.lookup m with
  | none=>rfl
  | some v =>
   refine absurd ?_ q;rw[<- h4,List.contains_iff_mem];exact mem_map.mpr ⟨_,PySem.mem_of_lookup e,rfl⟩
 .cases h
theorem zF6 (hbase:attributeBase o m env (eval o env)=eval o env)(hfew:methodCallForm (args.length+([]:List Keyword).length) (backTo pos (starEach args env)) (backToKw pos (keywordEach [] env))=true)(hline:(apos.endLine==pos.line)=true) :
  eval (.Call (.Attribute o m apos) args [] pos) env=(do
   let ov<-eval o env
   standAt apos.atName
   let (f,first)<-holding [ov] (getMethod ov m (do return (<- importBound o env).getD true))
   callWith pos f first (backTo pos (starEach args env)) (backToKw pos (keywordEach [] env))):=by
 rw[arm_eval_Call,hbase];unfold methodCall calleeOf methodCallPos;simp only[hfew,hline,if_true,Bool.not_true,Bool.or_true,pure_bind]
noncomputable def mthM (U:Dm)(ix:List (Str×Nat))(m:Str)(f:Mst->Option MR)(g:Mst->Option MA):Mst->Option MR:=λs=>(f s).bind λx=>(clsW m x.1).bind λc=>(ix.lookup c).bind λn=>(U[n]?).bind λe=>if spec.lookup e.1=some (.mth c m) then (g ⟨s.G,x.2⟩).bind λws=>e.2 (x.1::ws.1) ws.2 else none
theorem zSI {m:Str}{o:Expr}{apos pos:Pos}{e:Expr}{es:List Expr}{ix:List (Str×Nat)}{f:Mst->Option MR}{g:Mst->Option MA}(he:GM X o f)(ha:GAM X (e::es) g)(d:DmOk X.prog X.w X.K X.mg X.base k U)(hr:Room k X.A)
  (hst:starEach (e::es) X.env=(false,eval e X.env)::starEach es X.env) (hpl:(backTo pos (starEach es X.env)).any (·.1)=false) (hbase:attributeBase o m X.env (eval o X.env)=eval o X.env) (hfew:methodCallForm ((e::es).length+([]:List Keyword).length) (backTo pos (starEach (e::es) X.env)) (backToKw pos (keywordEach [] X.env))=true) (hline:(apos.endLine==pos.line)=true):GM X (.Call (.Attribute o m apos) (e::es) [] pos) (mthM U ix m f g):=by
 intro pins s B H Q I ⟨T,G,O,r,ms,q,cc⟩;obtain⟨x,ex,q⟩:=bind_some q;obtain⟨c,hc,q⟩:=bind_some q;obtain⟨n,en,q⟩:=bind_some q;obtain⟨ent,ee,q⟩:=bind_some q;by_cases hk:spec.lookup ent.1=some (.mth c m)
 .rw [if_pos hk] at q;obtain⟨ws,ew,q⟩:=bind_some q;have D:=d ent.1 ent.2 (mem_of_getElem? ee);rw[hk] at D;obtain⟨C,fa,fd,ps,d1,d2,d3,d4,d5⟩:=D;refine zOm (C:=C) he d2 d3 d4 hr d5 .nil zGp ha hst hpl (zF6 hbase hfew hline) pins s B H Q I ?_;refine⟨T,G,O,x,ms,ex,λv H1 M k1 c1 dv=>?_⟩;obtain⟨a,C',dx,gs,rfl,h1,h2,h3⟩:=zOM c1 hc dv;obtain rfl:=zHL d1 h2;refine⟨a,dx,gs,rfl,h1,h3,T++M,G,x.2,ws,ms.next k1 c1,ew,λus H2 M2 k2 c2 d2'=>?_⟩;show spM X.K ent.2 (.ref a::(us++[])) H2 Q E0;rw[append_nil];exact⟨T++M++M2,ws.2,x.1::ws.1,r,c2,.cons (dv.mono k2 M2) d2',q,λv H3 M3 k3 c3 d3=>cc v H3 (M++(M2++M3)) (k1.trans (k2.trans k3)) (by simp_all) (by simp_all)⟩
 .rw [if_neg hk] at q;cases q
theorem zPk (he:GM X o f)(d:DmOk X.prog X.w X.K X.mg X.base k U)(hr:Room k X.A)(hbase:attributeBase o m X.env (eval o X.env)=eval o X.env)(hline:(apos.endLine==pos.line)=true):GM X (.Call (.Attribute o m apos) [] [] pos) (mthM U ix m f nilM):=by
 intro pins s B H Q I ⟨T,G,O,r,ms,q,cc⟩;obtain⟨x,ex,q⟩:=bind_some q;obtain⟨c,hc,q⟩:=bind_some q;obtain⟨n,en,q⟩:=bind_some q;obtain⟨ent,ee,q⟩:=bind_some q;by_cases hk:spec.lookup ent.1=some (.mth c m)
 .rw [if_pos hk] at q;obtain⟨ws,ew,q⟩:=bind_some q;cases ew;have D:=d ent.1 ent.2 (mem_of_getElem? ee);rw[hk] at D;obtain⟨C,fa,fd,ps,d1,d2,d3,d4,d5⟩:=D;refine zL8 (C:=C) he d2 d3 d4 hr d5 .nil zGp (zF6 hbase rfl hline) pins s B H Q I ?_;refine⟨T,G,O,x,ms,ex,λv H1 M k1 c1 dv=>?_⟩;obtain⟨a,C',dx,gs,rfl,h1,h2,h3⟩:=zOM c1 hc dv;obtain rfl:=zHL d1 h2;refine⟨a,dx,gs,rfl,h1,h3,T++M,x.2,[x.1],r,c1,.cons dv .nil,q,λv H3 M3 k3 c3 d3=>cc v H3 (M++M3) (k1.trans k3) (by rw[<- q0];exact c3) (by rw[<- q0];exact d3)⟩
 .rw [if_neg hk] at q;cases q
theorem zQy {pins:List (Addr×Obj)}{B:St}{H:Hp}{s:Shared}{Q:VK}{us fus:List Value}{kw:List (Str×Value)}{vs:List V}{C f:Addr}{fd:FuncData}{ps:List Str}{sp:Sp}(M:Mk X.K C f)(F:FnOk X.prog X.w X.K X.mg X.base CX0 k f fd ps sp)(hr:Room (k+1) X.A)
  (hb:∀ (s':Shared) (x:Addr),X.K.In s'.heap->(Value.ref x::fus).length=ps.length->BindsTo s' fd ⟨.ref x::us,kw⟩ (ps.zip (.ref x::fus))) (I:Inv X pins B H s) (r:Vals vs fus)
  (h:∀ x dx,H x=none->H dx=none->dx≠x->sp (.ref x::vs) (upd (upd H dx (.own x)) x (.ins C dx [])) (λv H2=>v=.non/\Q (.ref x) H2) E0) :
  wpAny (model X.prog X.w) X.A (call (.ref C) us kw) (EP X pins B Q) X.xe s:=by
 have hq:=h (s.heap.objs.size+1) s.heap.objs.size (I.hok.fresh (Nat.le_succ _)) (I.hok.fresh (le_refl _)) (ne_of_lt (Nat.lt_succ_self _));have I2:=Inv.made (C:=C) I;have r2:Vals (V.ref (s.heap.objs.size+1)::vs) _:=.cons rfl r;have hl:(Value.ref (s.heap.objs.size+1)::fus).length=ps.length:=by
  have e:=r2.length;rw[F.len _ _ _ _ hq] at e;exact e.symm
 refine wpAny_call (zMI (f:=f) I.kIn M.makes M.init (beq_iff_eq.mp M.fn) (codeAny_mono (F.run _ X.stack _ _ _ (Value.ref (s.heap.objs.size+1)::fus) _ _ E0 (hr.make C us kw)
  (I2.env0.make C us kw) (hb _ _ I2.kIn hl) r2 hq) λr s' hq'=>?_))
 cases r with
 | error e=>exact hq'.elim
 | ok fl =>
  cases fl with
  | ret u =>
   obtain⟨v,H',I3,rv,ev,q3⟩:=I2.after hq';subst ev;exact⟨rv,⟨V.ref (s.heap.objs.size+1),H',I3,rfl,q3⟩⟩
  | next=>exact False.elim hq'
  | brk=>exact False.elim hq'
  | cont=>exact False.elim hq'
noncomputable def zO0 (d:Bool):List W:=if d=true then [.dat .non] else []
noncomputable def mkM (U:Dm)(n:Nat)(c kw:Str)(d:Bool)(g:Mst->Option MA):Mst->Option MR:=λs=>(U[n]?).bind λe=>if spec.lookup e.1=some (.mk c kw) then (g s).bind λws=>e.2 (ws.1++zO0 d) ws.2 else none
theorem zT6 {n:Nat}{c kw:Str}{b:Bool}{p pos:Pos}{e:Expr}{es:List Expr}{g:Mst->Option MA}(ha:GAM X (e::es) g)(d:DmOk X.prog X.w X.K X.mg X.base k U)(hr:Room k X.A)(hg:Gl X c)(hdb:(c==("__debug__":Str))=false)
  (hst:starEach (e::es) X.env=(false,eval e X.env)::starEach es X.env) (hpl:(backTo pos (starEach es X.env)).any (·.1)=false):GM X (.Call (.Name c p) (e::es) [] pos) (mkM U n c kw b g):=by
 intro pins s B H Q I ⟨T,G,O,r,ms,q,cc⟩;obtain⟨ent,ee,q⟩:=bind_some q;by_cases hk:spec.lookup ent.1=some (.mk c kw)
 .rw [if_pos hk] at q;obtain⟨ws,ew,q⟩:=bind_some q;have D:=d ent.1 ent.2 (mem_of_getElem? ee);rw[hk] at D;obtain⟨j,C,fa,fd,ps,jk,d1,d2,d3,d4,d5,d6⟩:=D;refine wpAny_Call_Name_kw (zDx I hg d1 ?_ hdb);refine W.callWith_K (h₀:=X.base) I.ok.mod.kin d2.kp (thn (ha pos pins s B H (λvs H1=>∃ M,Kp H H1/\zAD X.K H1 (T++M) ws.2/\DenWL X.K H1 (T++M) ws.1 vs) I ⟨T,G,O,ws,ms,ew,λvs H1 M k1 c1 dv=>⟨M,k1,c1,dv⟩⟩) λus s1 ⟨vs,H1,I1,rv,M,k1,c1,dv⟩=>⟨I1.kIn,?_⟩) hst hpl;have rn:Vals (if b=true then [V.non] else []) (if b=true then [Value.none] else []):=by
   cases b with
   | true=>exact .cons rfl .nil
   | false=>exact .nil
  refine zQy d2 d3 (hr.mono jk) (λs' x hK hl=>?_) I1 (rv.append rn) λx dx n1 n2 n3=>?_
  .cases b with
   | true=>exact d5 s' (.ref x::us) hK hl
   | false =>
    exact d4 s' (.ref x::us) hK hl
  .refine ⟨x,dx,H1,_,T++M,ws.2,ws.1++zO0 b,r,rfl,n1,n2,n3,rfl,c1,dv.append ?_,q,λH' M' k2 c2 d2'=>⟨rfl,cc (.ref x) H' (M++M') (k1.trans k2) (by rw[<- q0];exact c2) (by simp_all)⟩⟩;cases b with
   | true=>exact .cons (by rw[DenW,Den]) .nil
   | false=>exact .nil
 .rw [if_neg hk] at q;cases q
end
section
variable {K:W.Frag}{H:Hp}{T:List CA}{O:Mem}{B:St}{G:List (Option W)}
theorem MS.chgG (ms:MS K H T O B G){n:Nat}{a:Addr}{k:CK}{o:HO}{ws:List W}(ha:T[n]?=some (a,k))(h2:fz1 o=none)(t:Kp H (upd H a o)->zBU K (upd H a o) T a ws k):MS K (upd H a o) T (O.set n ws) B G/\Kp H (upd H a o):=by
 have hn:n < O.length:=by rw[<- ms.cells.len];exact(zzg ha).1
 obtain⟨c,kp⟩:=ms.cells.chgG hn ha h2 t;have m:=ms.next (M:=[]) kp (by rw[append_nil];exact c);rw[append_nil] at m;exact⟨m,kp⟩
theorem DenWL.take:∀ {ws:List W} {vs:List V} (j:Nat),DenWL K H T ws vs->DenWL K H T (ws.take j) (vs.take j)
 | [],_,_,h=>by rw[DenWL] at h;subst h;rw[List.take_nil,List.take_nil];exact .nil
 | _::_,_,0,h=>.nil
 | _::ws,_,j+1,h=>by
  rw[DenWL] at h;obtain⟨v,us,rfl,h2,h3⟩:=h;exact .cons h2 (DenWL.take j h3)
theorem DenWL.drop:∀ {ws:List W} {vs:List V} (j:Nat),DenWL K H T ws vs->DenWL K H T (ws.drop j) (vs.drop j)
 | [],_,_,h=>by rw[DenWL] at h;subst h;rw[List.drop_nil,List.drop_nil];exact .nil
 | _::_,_,0,h=>h
 | _::ws,_,j+1,h=>by
  rw[DenWL] at h;obtain⟨v,us,rfl,h2,h3⟩:=h;exact DenWL.drop j h3
theorem DenWL.rev:∀ {ws:List W} {vs:List V},DenWL K H T ws vs->DenWL K H T ws.reverse vs.reverse
 | [],_,h=>by rw[DenWL] at h;subst h;exact .nil
 | _::ws,_,h=>by
  rw[DenWL] at h;obtain⟨v,us,rfl,h2,h3⟩:=h;rw[reverse_cons,reverse_cons];exact(DenWL.rev h3).append (.cons h2 .nil)
end
noncomputable def zS4 (k:List Int):List W->Option W
 | []=>none
 | .tup [d,u]::ws=>if kI d=some k then some u else zS4 k ws
 | _::_=>none
section
variable {K:W.Frag}{H:Hp}{T:List CA}
noncomputable def lenK (t:Bool):Nat:=if t=true then 2 else 1
end
section
variable {X:Cx}
noncomputable def nidW (x y:W)(O:Mem):Option MR:=match y with
 | .di b n=>(kI x).bind λks=>if ks.length=lenK b then (O[n]?).bind λws=>some (.dat (.bl (!(zS4 ks ws).isSome)),O) else none
 | _=>none
noncomputable def lcpM (f:Mst->Option MR):Mst->Option MR:=λs=>(f s).bind λx=>match x.1 with
 | .loc n=>(x.2[n]?).bind λws=>some (.loc x.2.length,x.2++[ws])
 | _=>none
theorem zSK (hg:Gl X "list")(hm:X.mg "list"=none)(h:GM X e f)(he:starEach [e] X.env=[(false,eval e X.env)]):GM X (.Call (.Name "list" p) [e] [] pos) (lcpM f):=(zFz zDW hg hm boot_list (zAU h zA1 he) (by decide) (by decide) he rfl).imp λB H Q zz109=>by
 obtain⟨T,G,O,r,ms,e,c⟩:=zz109;obtain⟨x,ex,e⟩:=bind_some e;split at e
 .rename_i n en;obtain⟨ws,ew,e⟩:=bind_some e;cases e;refine⟨T,G,O,x,ms,ex,λv H1 M1 k1 c1 d1=>?_⟩;rw[en,DenW] at d1;obtain⟨a,ha,rfl⟩:=d1;obtain⟨vs,g2,g3⟩:=c1.loc' ha ew;refine⟨a,vs,rfl,.inl (SqL.of g2),λl nl=>?_⟩;have s2:Same H1 (upd H1 l (.lst vs)):=zAQ nl _;exact c _ _ (M1++[(l,.lst)]) (k1.trans (zAi s2)) (by rw[<- q0];exact c1.new s2 nl zAP (g3.mono (zAi s2) _)) (by rw[<- q0];exact zDu c1)
 .cases e
noncomputable def cutW (ws:List W)(lo hi:Option Int):List W:=(ws.drop (HT.sIx ws.length 0 lo)).take (HT.sIx ws.length ws.length hi - HT.sIx ws.length 0 lo)
noncomputable def slcM (u:Bool)(f g:Mst->Option MR):Mst->Option MR:=λs=>(f s).bind λx=>(g ⟨s.G,x.2⟩).bind λy=>match x.1,y.1 with
 | .loc n,.dat (.int i)=>(y.2[n]?).bind λws=>some (.loc y.2.length,y.2++[cutW ws (if u then none else some i) (if u then some i else none)])
 | _,_=>none
theorem zPi (ha:GM X e f)(hb:GM X b g):GM X (.Subscript e (.Slice none (some b) none p2) pos) (slcM true f g):=by
 refine(zFO zGc ha zGn (zGm hb)).imp λB H Q zz110=>?_
 obtain⟨T,G,O,r,ms,q,c⟩:=zz110;obtain⟨x,ex,q⟩:=bind_some q;obtain⟨y,ey,q⟩:=bind_some q;split at q
 .rename_i n i en ei;obtain⟨ws,ew,q⟩:=bind_some q;cases q;refine⟨T,G,O,x,ms,ex,λv H1 M1 k1 c1 d1=>⟨T++M1,G,x.2,y,ms.next k1 c1,ey,λv2 H2 M2 k2 c2 d2=>?_⟩⟩;rw[ei,DenW,Den] at d2;rw[en,DenW] at d1;obtain⟨a,ha,rfl⟩:=d1;obtain⟨vs,g2,g3⟩:=c2.loc' (getElem?_append_left (zzg ha).1 |>.trans ha) ew;refine⟨i,d2,a,vs,rfl,SqL.of g2,λl nl=>?_⟩;have s2:Same H2 (upd H2 l (.lst (cutV vs none (some i)))):=zAQ nl _;have g4:DenWL X.K H2 (T++M1++M2) (cutW ws none (some i)) (cutV vs none (some i)):=by unfold cutW cutV;rw[<- g3.length];exact(g3.drop _).take _
  exact c _ _ (M1++M2++[(l,.lst)]) ((k1.trans k2).trans (zAi s2)) (by rw[<- q0,<- q0];exact c2.new s2 nl zAP (g4.mono (zAi s2) _)) (by rw[<- q0,<- q0];exact zDu c2)
 .cases q
theorem zPj (ha:GM X e f)(hb:GM X b g):GM X (.Subscript e (.Slice (some b) none none p2) pos) (slcM false f g):=by
 refine(zFO zGc ha (zGm hb) zGn).imp λB H Q zz111=>?_
 obtain⟨T,G,O,r,ms,q,c⟩:=zz111;obtain⟨x,ex,q⟩:=bind_some q;obtain⟨y,ey,q⟩:=bind_some q;split at q
 .rename_i n i en ei;obtain⟨ws,ew,q⟩:=bind_some q;cases q;refine⟨T,G,O,x,ms,ex,λv H1 M1 k1 c1 d1=>⟨T++M1,G,x.2,y,ms.next k1 c1,ey,λv2 H2 M2 k2 c2 d2=>?_⟩⟩;rw[ei,DenW,Den] at d2;rw[en,DenW] at d1;obtain⟨a,ha,rfl⟩:=d1;obtain⟨vs,g2,g3⟩:=c2.loc' (getElem?_append_left (zzg ha).1 |>.trans ha) ew;refine⟨i,d2,a,vs,rfl,SqL.of g2,λl nl=>?_⟩;have s2:Same H2 (upd H2 l (.lst (cutV vs (some i) none))):=zAQ nl _;have g4:DenWL X.K H2 (T++M1++M2) (cutW ws (some i) none) (cutV vs (some i) none):=by unfold cutW cutV;rw[<- g3.length];exact(g3.drop _).take _
  exact c _ _ (M1++M2++[(l,.lst)]) ((k1.trans k2).trans (zAi s2)) (by rw[<- q0,<- q0];exact c2.new s2 nl zAP (g4.mono (zAi s2) _)) (by rw[<- q0,<- q0];exact zDu c2)
 .cases q
end
end DL
end
section
namespace DL
open PySem Spec PyProof.Rows L2
set_option genSizeOf false in
set_option genInjectivity false in
inductive ME where
 | pur (e:E) | var (i:Nat) | call (n:Nat) (f:Str) (es:ME) | lst (es:ME) | tupd (es:ME) | ix (a b:ME) | bin (op:Operator) (a b:ME) | cmp (op:CmpOp) (a b:ME) 
 | comp (n:Nat) (ms:List Nat) (x:Str) (src el:ME) | rng (a:ME) | rng2 (a b:E) | it (a:ME) | not (a:ME) | nil | cons (e es:ME) | fld (a:ME) (f:Str) | mth (ix:List (Str×Nat)) (m:Str) (a es:ME) | mk (n:Nat) (c kw:Str) (d:Bool) (es:ME) | lcp (a:ME) | slc (u:Bool) (a b:ME) | nid (a b:ME)
set_option genSizeOf false in
set_option genInjectivity false in
inductive MT where
 | nil | cons (a b:MT) | set (i:Nat) (e:ME) | setC (i:Nat) (e:ME) | app (t e:ME) | put (t k e:ME) | ife (c:ME) (a b:MT) | for1 (i:Nat) (src:ME) (b:MT) 
 | ret (e:ME) | never 
noncomputable def fnM (U:Dm)(n:Nat)(x:Str)(g:Mst->Option MA):Mst->Option MR:=λs=>match U[n]? with
 | some (y,F)=>if y=x then zLU F g s else none
 | none=>none
mutual
def evM (J:Gm)(U:Dm):ME->Mst->Option MR
 | .pur e=>zMQ (evE J e)
 | .var i=>varM i
 | .call n f es=>fnM U n f (evMs J U es)
 | .lst es=>lstM (evMs J U es)
 | .tupd es=>zLt (evMs J U es)
 | .ix a b=>twoM (evM J U a) (evM J U b) ixW
 | .bin op a b=>twoM (evM J U a) (evM J U b) (opM (binD op))
 | .cmp op a b=>twoM (evM J U a) (evM J U b) (opM (cmpD op))
 | .fld a f=>fldM J.ob f (evM J U a)
 | .mth ix m a es=>mthM U ix m (evM J U a) (evMs J U es)
 | .mk n c kw d es=>mkM U n c kw d (evMs J U es)
 | .lcp a=>lcpM (evM J U a)
 | .slc u a b=>slcM u (evM J U a) (evM J U b)
 | .comp n ms _ src el=>zHK ms 1 (evSrc J U src) (tgM n) (evM J U el)
 | _=>λ_=>none
def evMs (J:Gm)(U:Dm):ME->Mst->Option MA
 | .nil=>nilM
 | .cons e es=>zNG (evM J U e) (evMs J U es)
 | _=>λ_=>none
def evSrc (J:Gm)(U:Dm):ME->Mst->Option (Src×Mem)
 | .rng a=>zL0 (evM J U a)
 | .rng2 a b=>zTa (evE J a) (evE J b)
 | .it a=>srcM (evM J U a)
 | _=>λ_=>none
end
mutual
def evT (J:Gm)(U:Dm):ME->Mst->Option MB
 | .pur e=>zMR (asB (evE J e))
 | .cmp op a b=>asBM (evM J U (.cmp op a b))
 | .call n f es=>asBM (evM J U (.call n f es))
 | .nid a b=>asBM (twoM (evM J U a) (evM J U b) nidW)
 | .not a=>notB (evT J U a)
 | _=>λ_=>none
def zGI (J:Gm)(U:Dm):ME->Mst->Option MB
 | .cons e es=>(match es with
  | .nil=>evT J U e
  | es=>andB (evT J U e) (zGI J U es))
 | _=>λ_=>none
def zK0 (J:Gm)(U:Dm):ME->Mst->Option MB
 | .cons e es=>(match es with
  | .nil=>evT J U e
  | es=>orB (evT J U e) (zK0 J U es))
 | _=>λ_=>none
end
mutual
def evS' (J:Gm)(U:Dm):MT->Mst->Option OutM
 | .set i e=>setM i (evM J U e)
 | .setC i e=>setM i (evM J U e)
 | .app t e=>appM (evM J U t) (evM J U e)
 | .put t k e=>putM (evM J U t) (evM J U k) (evM J U e)
 | .ife c a b=>ifM (evT J U c) (evSs' J U a) (evSs' J U b)
 | .for1 i src b=>λs=>(evSrc J U src s).bind λr=>zFZ (tgM i) (evSs' J U b) r.1 0 ⟨s.G,r.2⟩
 | .ret e=>retM (evM J U e)
 | .nil=>λ_=>none
 | .cons _ _=>λ_=>none
 | .never=>λ_=>none
def evSs' (J:Gm)(U:Dm):MT->Mst->Option OutM
 | .nil=>λs=>some (.nx s)
 | .cons a b=>seqM (evS' J U a) (evSs' J U b)
 | _=>λ_=>none
end
noncomputable def zNP:Expr->Bool
 | .Name _ _=>true
 | .Subscript _ _ _=>true
 | .Attribute _ _ _=>true
 | .Call _ (_::_) _ _=>true
 | _=>false
mutual
noncomputable def cM:ME->Scope->List Str->List Str->Expr->Bool
 | .pur e,sc,N,bs=>λx=>cE e sc N bs x
 | .var i,sc,N,bs=>λx=>cE (.var i) sc N bs x
 | .call _ f es,sc,N,bs=>λe=>onC e λy z2=>zHf z2 λx xs=>(decide (f=y)&&glB sc f&&okN f&&(spec.lookup f).isNone&&cMs es sc N bs (x::xs))
 | .lst es,sc,N,bs=>λe=>zJo e λl _=>cMs es sc N bs l
 | .tupd es,sc,N,bs=>λe=>zGr e λl _ _=>cMs es sc N bs l
 | .ix a b,sc,N,bs=>λe=>zA8 e λl r _=>zDt r&&cM a sc N bs l&&cM b sc N bs r
 | .bin op a b,sc,N,bs=>λe=>zGt e λl op' r _=>opB op op'&&cM a sc N bs l&&cM b sc N bs r
 | .cmp op a b,sc,N,bs=>λ_=>false
 | .fld a f,sc,N,bs=>λe=>zAr e λl m _=>decide (m=f)&&zNP l&&cM a sc N bs l
 | .mth _ m a es,sc,N,bs=>λe=>zB8 e λz1 z2 z3 cpos=>zAr z1 λl m' apos=>on0 z3<|(decide (m'=m)&&zNP l&&(apos.endLine==cpos.line)&&decide (z2.length < 30)&&cM a sc N bs l&&cMs es sc N bs z2)
 | .mk _ c _ _ es,sc,N,bs=>λe=>onC e λy z2=>zHf z2 λx xs=>(decide (c=y)&&glB sc c&&okN c&&cMs es sc N bs (x::xs))
 | .slc u a b,sc,N,bs=>λe=>zA8 e λl z1 _=>zGs z1 λx y z2 _=>zEY z2<|(if u then zEY x<|zDo y λv=>cM a sc N bs l&&cM b sc N bs v else zEY y<|zDo x λv=>cM a sc N bs l&&cM b sc N bs v)
 | .lcp a,sc,N,bs=>λe=>onC e λy z2=>on1 z2 λl=>(decide (y = "list")&&bltB sc bs "list"&&zAV l&&cM a sc N bs l)
 | .comp n ms x src el,sc,N,bs=>λe=>zDD e λv z1 scope _=>on1 z1 λz2=>zOw z2 λz3 t z4 a=>zAq z3 λy _=>on0 z4<|(decide (x=y)&&decide (a=0)&&decide (n=N.length)&&cscB sc scope&&zMH scope N ms&&decide ((mask (noN N) ms N++[x]).Nodup)&&locB (relS sc scope) x&&ownB scope x&&cSrc src sc N bs t&&cM el (relS sc scope) (mask (noN N) ms N++[x]) bs v)
 | _,_,_,_=>λ_=>false
noncomputable def cMs:ME->Scope->List Str->List Str->List Expr->Bool
 | .nil,sc,N,bs=>λl=>l.isEmpty
 | .cons e es,sc,N,bs=>λl=>match l with
  | x::xs=>zAV x&&cM e sc N bs x&&cMs es sc N bs xs
  | []=>false
 | _,_,_,_=>λ_=>false
noncomputable def cSrc:ME->Scope->List Str->List Str->Expr->Bool
 | .rng a,sc,N,bs=>λx=>onC x λy z2=>on1 z2 λl=>(decide (y = "range")&&bltB sc bs "range"&&zAV l&&cM a sc N bs l)
 | .rng2 a b,sc,N,bs=>λ_=>false
 | .it a,sc,N,bs=>λx=>zJw x&&cM a sc N bs x
 | _,_,_,_=>λ_=>false
end
mutual
noncomputable def cT:ME->Scope->List Str->List Str->Expr->Bool
 | .pur e,sc,N,bs=>λx=>cE e sc N bs x
 | .cmp op a b,sc,N,bs=>λx=>cM (.cmp op a b) sc N bs x
 | .call n f es,sc,N,bs=>λx=>cM (.call n f es) sc N bs x
 | .nid a b,sc,N,bs=>λ_=>false
 | .not a,sc,N,bs=>λe=>zC1 e λz1 l _=>onEq z1 .Not<|(cT a sc N bs l)
 | _,_,_,_=>λ_=>false
noncomputable def cTs:ME->Scope->List Str->List Str->List Expr->Bool
 | .cons e es,sc,N,bs=>λl=>match es with
  | .nil=>(match l with
   | [x]=>cT e sc N bs x
   | _=>false)
  | es=>(match l with
   | x::y::xs=>cT e sc N bs x&&cTs es sc N bs (y::xs)
   | _=>false)
 | _,_,_,_=>λ_=>false
end
noncomputable def zPO:ME->Bool
 | .comp _ _ _ _ _=>true
 | _=>false
mutual
noncomputable def cS' (sc:Scope)(N bs:List Str):MT->Stmt->Bool
 | .set i e=>λs=>zBv s λz1 v _=>on1 z1 λz2=>zAq z2 λy _=>varB sc N i y&&zEd v&&cM e sc N bs v
 | .setC i e=>λs=>zBv s λz1 v _=>on1 z1 λz2=>zAq z2 λy _=>zPO e&&varB sc N i y&&cM e sc N bs v
 | .app t e=>λs=>zFQ s λz1 _=>zB8 z1 λz2 z3 z4 cpos=>zAr z2 λb m apos=>on1 z3 λv=>on0 z4<|(decide (m = "append")&&zNP b&&(apos.endLine==cpos.line)&&zAV v&&cM t sc N bs b&&cM e sc N bs v)
 | .put t k e=>λs=>zBv s λz1 v _=>on1 z1 λz2=>zA8 z2 λb kk _=>zEd v&&zDt kk&&cM t sc N bs b&&cM k sc N bs kk&&cM e sc N bs v
 | .ife c a b=>λs=>onIf s λt l r _=>cT c sc N bs t&&cSs' sc N bs a l&&cSs' sc N bs b r
 | .for1 i it b=>λs=>zOx s λz1 t l z2 _=>zAq z1 λy _=>on0 z2<|(varB sc N i y&&cSrc it sc N bs t&&cSs' sc N bs b l)
 | .ret e=>λs=>zDd s λz1 _=>zDo z1 λv=>cM e sc N bs v
 | .never=>λ_=>true
 | .nil=>λ_=>false
 | .cons _ _=>λ_=>false
noncomputable def cSs' (sc:Scope)(N bs:List Str):MT->List Stmt->Bool
 | .nil=>λl=>l.isEmpty
 | .cons a b=>λl=>match l with
  | s::r=>cS' sc N bs a s&&cSs' sc N bs b r
  | []=>false
 | _=>λ_=>false
end
end DL
end
section
namespace DL
open PySem Spec PyProof.Rows L2
structure XOkM (X:Cx)(k:Nat)(J:Gm)(U:Dm)(bs:List Str):Prop where
 x:XOk X k J bs
 d:DmOk X.prog X.w X.K X.mg X.base k U
theorem XOkM.comp (o:XOkM X k J U bs)(nd:N.Nodup):XOkM (zAR X N scope s H fp) k J U bs:=⟨o.x.comp nd,o.d⟩
section
variable {X:Cx}{k:Nat}{J:Gm}{U:Dm}{bs:List Str}
theorem zG7 (h:∀ s,f s=none):GM X e f:=λpins s B H Q I zz112=>by
 obtain⟨T,G,O,r,ms,q,c⟩:=zz112;rw[h] at q;cases q
theorem zI0 (h:∀ x y,o x y=none)(s:Mst):twoM f g (opM o) s=none:=by
 unfold twoM;cases f s with
 | none=>rfl
 | some x =>
  rw[qx];cases g _ with
  | none=>rfl
  | some y =>
   unfold opM
   simp_all
theorem zSM (ha:GM X a f)(hb:GM X b g):GM X (.BinOp a op b pos) (twoM f g (opM (binD op))):=by
  cases op with
  | Add=>exact zIf ((zNx.or zJm).or zJl) zJh ha hb
  | Sub=>exact zIf zNt (zHa λx y z e=>by
      unfold binD at e;dsimp only at e;split at e
      . cases e;exact⟨_,_,rfl,rfl,rfl⟩
      . cases e) ha hb
  | Mult=>exact zIf (zJj.or zNu) zJg ha hb
  | FloorDiv=>exact zIf zHc (zDB λx y z e=>by
      unfold binD at e;dsimp only at e;split at e
      . unfold zMt at e;split at e
        . rename_i h;cases e;exact⟨_,_,rfl,rfl,h,rfl⟩
        . cases e
      . cases e) ha hb
  | Mod=>exact zIf zJk (zDB λx y z e=>by
      unfold binD at e;dsimp only at e;split at e
      . split at e
        . cases e
        . rename_i h;cases e;exact⟨_,_,rfl,rfl,h,rfl⟩
      . cases e) ha hb
  | Pow=>exact zIf zNv (zDB λx y z e=>by
      unfold binD at e;dsimp only at e;split at e
      . split at e
        . rename_i h;cases e;exact⟨_,_,rfl,rfl,h,rfl⟩
        . cases e
      . cases e) ha hb
  | _=>exact zG7 (zI0 λ_ _=>rfl)
theorem zT8 (o:XOkM X k J U bs)(hg:Gl X f)(hd:(f==("__debug__":Str))=false)(ha:GAM X (x::xs) g)(hst:∀ e∈x::xs,zAV e=true)(hsp:spec.lookup f=none):GM X (.Call (.Name f p) (x::xs) [] pos) (fnM U n f g):=by
 cases q:U[n]? with
 | none=>exact zG7 λs=>by unfold fnM;rw[q]
 | some yF =>
  obtain⟨y,F⟩:=yF;by_cases e:y=f
  .subst e;have ef:fnM U n y g=zLU F g:=by
    funext s;unfold fnM
    simp_all
   rw[ef];have D:=o.d y F (mem_of_getElem? q);rw[hsp] at D;obtain⟨a,fd,ps,h1,h2,h3,h4⟩:=D;exact zPm h1 o.x.room hg h2 h3 h4 ha hd (zAB (hst x xq)) (zA7 λe z=>hst e (qJ _ z))
  .exact zG7 λs=>by
    unfold fnM;rw[q];exact if_neg e
theorem zDj {c}(h:zNP b=true):attributeBase b m env c=c:=by
 cases b with
 | Call f as _ _=>cases as<;>first | (cases f<;>rfl) | cases h
 | _=>first | rfl | cases h
theorem zEF :∀ {es:List Expr},cMs a sc N bs es=true->∀ e∈es,zAV e=true:=by
 induction a with
 | nil =>
  intro es h;cases es with
  | nil=>intro e z;exact absurd z (by simp)
  | cons x xs=>exact nomatch show false=true from h
 | cons a b _ ih =>
  intro es h;cases es with
  | nil=>intro e z;exact absurd z (by simp)
  | cons x xs =>
   simp only[cMs,x9] at h;intro e z;rcases mem_cons.mp z with rfl | z
   .simp_all
   .exact ih h.2 e z
 | _=>intro es h;exact zzf h
theorem zSk (h:∀ e∈es,zAV e=true)(hl:es.length < 30)(pos:Pos):methodCallForm (es.length+([]:List Keyword).length) (backTo pos (starEach es X.env)) (backToKw pos (keywordEach [] X.env))=true:=by
 unfold methodCallForm;have q:=zA7 (X:=X) h pos;rw[x9,x9];refine⟨⟨?_,rfl⟩,decide_eq_true (by assumption)⟩
 simp_all
structure zUP (X:Cx)(J:Gm)(U:Dm)(bs:List Str)(a:ME):Prop where
 e:∀ e,cM a X.env.scope X.N bs e=true->GM X e (evM J U a):=by exact nh
 es:∀ es,cMs a X.env.scope X.N bs es=true->GAM X es (evMs J U a):=by exact nh
 s:∀ it,cSrc a X.env.scope X.N bs it=true->(∀ tg,GIM X tg it (evSrc J U a))/\∀ x,foldedSetIterable it X.env x=pure x:=by exact nh
 t:∀ e,cT a X.env.scope X.N bs e=true->GTM X e (evT J U a):=by exact nh
 ts:∀ l,cTs a X.env.scope X.N bs l=true->∀ pos,GWM X (.BoolOp .And l pos) (zGI J U a)/\GWM X (.BoolOp .Or l pos) (zK0 J U a):=by exact nh
theorem zBX (o:XOkM X k J U bs)(a:ME):zUP X J U bs a:=by
 induction a generalizing X with
 | pur e =>
  refine { e:=λx h=>zPl (((zCv o.x e).e _ h).1),t:=λx h=>zMd (((zCv o.x e).e _ h).2) }
 | var i =>
  refine { e:=λx h=>?_ };replace h:cE (.var i) X.env.scope X.N bs x=true:=h;obtain⟨_,_,rfl,hq1⟩:=zAK h;replace h:=hq1;simp only[x9,qj] at h;obtain⟨⟨h2,h3⟩,h4⟩:=h;obtain⟨n1,n2⟩:=zB9 h4;exact zSH h2 (zDl h3) n1 n2
 | call n f es ih =>
  have key:∀ e,cM (.call n f es) X.env.scope X.N bs e=true->GM X e (evM J U (.call n f es))/\GTM X e (asBM (evM J U (.call n f es))):=λe h=>by
   obtain⟨_,_,_,_,rfl,hq1⟩:=zBO h;obtain⟨_,_,rfl,hq2⟩:=zDp hq1;replace h:=hq2;simp only[x9,qj,Option.isNone_iff_eq_none] at h;obtain⟨⟨⟨⟨rfl,h2⟩,h3⟩,h5⟩,h4⟩:=h;have k:=λp pos=>zT8 (n:=n) (p:=p) (pos:=pos) o (zEj h2) (zB9 h3).1 ((ih o).es _ h4) (zEF h4) h5
   exact⟨k _ _,zPW (k _ _) λ_=>rfl⟩
  exact { e:=λe h=>(key e h).1,t:=λe h=>(key e h).2 }
 | lst es ih =>
  refine { e:=λx h=>?_ };obtain⟨_,_,rfl,hq1⟩:=zF1 h;replace h:=hq1;exact zSJ ((ih o).es _ h)
 | tupd es ih =>
  refine { e:=λx h=>?_ };obtain⟨_,_,_,rfl,hq1⟩:=zEW h;replace h:=hq1;exact zPh ((ih o).es _ h)
 | ix a b iha ihb =>
  refine { e:=λx h=>?_ };obtain⟨_,_,_,rfl,hq1⟩:=zAu h;replace h:=hq1;simp only[x9] at h;obtain⟨⟨h0,h1⟩,h2⟩:=h;exact zT7 ((iha o).e _ h1) ((ihb o).e _ h2) (zEb h0)
 | bin op a b iha ihb =>
  refine { e:=λx h=>?_ };obtain⟨_,_,_,_,rfl,hq1⟩:=zEZ h;replace h:=hq1;simp only[x9,opB,qj] at h;obtain⟨⟨rfl,h1⟩,h2⟩:=h;exact zSM ((iha o).e _ h1) ((ihb o).e _ h2)
 | cmp op a b iha ihb =>
  exact {}
 | fld a f iha =>
  refine { e:=λx h=>?_ };obtain⟨_,_,_,rfl,hq1⟩:=zAf h;replace h:=hq1;simp only[x9,qj] at h;obtain⟨⟨rfl,h2⟩,h3⟩:=h;exact zSL ((iha o).e _ h3) (zDj h2) λc m C q=>o.x.g.ob _ m C q
 | mth ix m a es iha ihs =>
  refine { e:=λx h=>?_ };obtain⟨z1,z2,z3,_,rfl,hq1⟩:=zAv h;obtain⟨_,_,_,rfl,hq2⟩:=zAf hq1;obtain⟨rfl,hq4⟩:=zBP hq2;replace h:=hq4;simp only[x9,qj] at h;obtain⟨⟨⟨⟨⟨rfl,h2⟩,h3⟩,h4⟩,h5⟩,h6⟩:=h;cases z2 with
  | nil =>
   cases es with
   | nil=>exact zPk ((iha o).e _ h5) o.d o.x.room (zDj h2) h3
   | _=>exact(zzf h6)
  | cons x xs =>
  have st:=zEF h6;exact zSI ((iha o).e _ h5) ((ihs o).es _ h6) o.d o.x.room (zAB (st _ xq)) (zA7 (λe z=>st e (qJ _ z)) _) (zDj h2) (zSk st h4 _) h3
 | mk n c kw d es ihs =>
  refine { e:=λx h=>?_ };obtain⟨_,_,_,_,rfl,hq1⟩:=zBO h;obtain⟨_,_,rfl,hq2⟩:=zDp hq1;replace h:=hq2;simp only[x9,qj] at h;obtain⟨⟨⟨rfl,h2⟩,h3⟩,h4⟩:=h;have st:=zEF h4;exact zT6 ((ihs o).es _ h4) o.d o.x.room (zEj h2) (zB9 h3).1 (zAB (st _ xq)) (zA7 (λe z=>st e (qJ _ z)) _)
 | slc u a b iha ihb =>
  refine { e:=λx h=>?_ };obtain⟨_,z1,_,rfl,hq1⟩:=zAu h;obtain⟨_,_,z2,_,rfl,hq2⟩:=zEX hq1;obtain⟨rfl,hq3⟩:=zC2 hq2;cases u with
  | true =>
   rw[if_pos rfl] at hq3;obtain⟨rfl,hq4⟩:=zC2 hq3;obtain⟨_,rfl,hq5⟩:=zCF hq4;rw[x9] at hq5;exact zPi ((iha o).e _ hq5.1) ((ihb o).e _ hq5.2)
  | false =>
   rw[if_neg qY] at hq3;obtain⟨rfl,hq4⟩:=zC2 hq3;obtain⟨_,rfl,hq5⟩:=zCF hq4;rw[x9] at hq5;exact zPj ((iha o).e _ hq5.1) ((ihb o).e _ hq5.2)
 | lcp a iha =>
  refine { e:=λx h=>?_ };obtain⟨_,_,_,_,rfl,hq1⟩:=zBO h;obtain⟨_,rfl,hq2⟩:=zAm hq1;replace h:=hq2;simp only[x9,qj] at h;obtain⟨⟨⟨rfl,h2⟩,h3⟩,h4⟩:=h;obtain⟨g1,g2⟩:=zAt o.x h2;exact zSK g1 g2 ((iha o).e _ h4) (zAB h3)
 | nid a b iha ihb =>
  exact {}
 | comp n ms x src el ihs ihe =>
  refine { e:=λe h=>?_ };obtain⟨v,z1,scope,pos,rfl,hq1⟩:=zBu h;obtain⟨z2,rfl,hq2⟩:=zAm hq1;obtain⟨z3,t,z4,a,rfl,hq3⟩:=zFR hq2;obtain⟨y,py,rfl,hq4⟩:=zAK hq3;obtain⟨rfl,hq5⟩:=zBP hq4;replace h:=hq5;simp only[x9,qj] at h;obtain⟨⟨⟨⟨⟨⟨⟨⟨⟨rfl,rfl⟩,rfl⟩,h4⟩,h5⟩,h6⟩,h7⟩,h8⟩,h9⟩,h11⟩:=h;have cx:∀ s H fp,XOkM (zAR X (mask (noN X.N) ms X.N++[x]) scope s H fp) k J U bs:=λs H fp=>o.comp h6
  exact zKT o.x.calm (((ihs o).s _ h9).1 _) ((ihs o).s _ h9).2 (zHJ h4) (zFV h5) (λs H fp=>zFY (X:=zAR X (mask (noN X.N) ms X.N++[x]) scope s H fp) h6 (zKj (k:=0) rfl) (zDv h7) (.inl h8)) λs H fp=>(ihe (cx s H fp)).e _ h11
 | rng a iha =>
  refine { s:=λx h=>?_ };obtain⟨_,_,_,_,rfl,hq1⟩:=zBO h;obtain⟨_,rfl,hq2⟩:=zAm hq1;replace h:=hq2;simp only[x9,qj] at h;obtain⟨⟨⟨rfl,h2⟩,h3⟩,h4⟩:=h;obtain⟨g1,g2⟩:=zAt o.x h2;exact⟨λtg=>zIg g1 g2 ((iha o).e _ h4) (zAB h3),λ_=>rfl⟩
 | rng2 a b =>
  exact {}
 | it a iha =>
  refine { s:=λx h=>?_ };replace h:(zJw x&&cM a X.env.scope X.N bs x)=true:=h;simp only[x9] at h;exact⟨λtg=>zPn ((iha o).e _ h.2),zEc h.1⟩
 | not a iha =>
  refine { t:=λe h=>?_ };obtain⟨z1,_,_,rfl,hq1⟩:=zCE h;obtain⟨rfl,hq2⟩:=zDE hq1;replace h:=hq2;exact zPX ((iha o).t _ h)
 | nil =>
  refine { es:=λes h=>?_ };cases es with
  | nil=>exact zPv
  | cons x xs=>exact nof h
 | cons e es ihe ihs =>
  refine { es:=λl h=>?_,ts:=λl h pos=>?_ }
  .cases l with
   | nil=>exact nof h
   | cons x xs =>
    replace h:(zAV x&&cM e X.env.scope X.N bs x&&cMs es X.env.scope X.N bs xs)=true:=h;simp only[x9] at h;exact zMo ((ihe o).e _ h.1.2) ((ihs o).es _ h.2) (zAB h.1.1)
  .simp only [cTs] at h;split at h
   .split at h
    .exact ⟨zMc ((ihe o).t _ h),zPU ((ihe o).t _ h)⟩
    .cases h
   .rename_i hn;split at h
    .rw [x9] at h;have q:=(ihs o).ts _ h.2 pos;have ea:zGI J U (.cons e es)=andB (evT J U e) (zGI J U es):=by
      rw[zGI];exact hn
     have eo:zK0 J U (.cons e es)=orB (evT J U e) (zK0 J U es):=by
      rw[zK0];exact hn
     rw[ea,eo];exact⟨zPV ((ihe o).t _ h.1) q.1,zR5 ((ihe o).t _ h.1) q.2⟩
    .cases h
end
section
variable {X:Cx}{k:Nat}{J:Gm}{U:Dm}{bs:List Str}
theorem zI9 :swapsWith e (some (.Attribute o f p)) n env=pure false:=by cases e<;>rfl
theorem zJD (o:XOkM X k J U bs)(fnl:∀ x,X.fn x=true)(a:MT):(∀ st,cS' X.env.scope X.N bs a st=true->GSM X st (evS' J U a))/\∀ sts,cSs' X.env.scope X.N bs a sts=true->GSsM X sts (evSs' J U a):=by
 have nd:=o.x.nd
 induction a with
 | nil =>
  refine⟨nh,λl h=>?_⟩;cases l with
  | nil=>exact zMe
  | cons x xs=>exact nof h
 | cons a b iha ihb =>
  refine⟨nh,λl h=>?_⟩;cases l with
  | nil=>exact nof h
  | cons x xs =>
   replace h:(cS' X.env.scope X.N bs a x&&cSs' X.env.scope X.N bs b xs)=true:=h;simp only[x9] at h;exact zKP (iha.1 _ h.1) (ihb.2 _ h.2)
 | set i e =>
  refine⟨λst h=>?_,nh⟩;obtain⟨z1,_,_,rfl,hq1⟩:=zA9 h;obtain⟨z2,rfl,hq2⟩:=zAm hq1;obtain⟨_,_,rfl,hq3⟩:=zAK hq2;replace h:=hq3;simp only[x9] at h;obtain⟨⟨h2,h3⟩,h4⟩:=h;obtain⟨v1,v2,_⟩:=zBe h2;exact zKQ nd v1 v2 ((zBX o e).e _ h4) (zCm h3) (.inl (fnl _))
 | setC i e =>
  refine⟨λst h=>?_,nh⟩;obtain⟨z1,_,_,rfl,hq1⟩:=zA9 h;obtain⟨z2,rfl,hq2⟩:=zAm hq1;obtain⟨_,_,rfl,hq3⟩:=zAK hq2;replace h:=hq3;simp only[x9] at h;obtain⟨⟨h2,h3⟩,h4⟩:=h;obtain⟨w1,w2,_⟩:=zBe h3;cases e with
  | comp n ms x src el =>
   obtain⟨v,z1,scope,pos,rfl,hr1⟩:=zBu h4;obtain⟨z2,rfl,hr2⟩:=zAm hr1;obtain⟨z3,t,z4,a,rfl,hr3⟩:=zFR hr2;obtain⟨y,py,rfl,hr4⟩:=zAK hr3;obtain⟨rfl,hr5⟩:=zBP hr4;replace h4:=hr5
   .simp only [x9,qj] at h4;obtain⟨⟨⟨⟨⟨⟨⟨⟨⟨rfl,rfl⟩,rfl⟩,h4⟩,h5⟩,h6⟩,h7⟩,h8⟩,h9⟩,h11⟩:=h4;have cx:∀ s H fp,XOkM (zAR X (mask (noN X.N) ms X.N++[x]) scope s H fp) k J U bs:=λs H fp=>o.comp h6
    exact zMg o.x.calm (((zBX o src).s _ h9).1 _) ((zBX o src).s _ h9).2 (zHJ h4) (zFV h5) (λs H fp=>zFY (X:=zAR X (mask (noN X.N) ms X.N++[x]) scope s H fp) h6 (zKj (k:=0) rfl) (zDv h7) (.inl h8)) (λs H fp=>(zBX (cx s H fp) el).e _ h11) nd w1 w2 (.inl (fnl _))
  | _=>cases h2
 | app t e =>
  refine⟨λst h=>?_,nh⟩;obtain⟨z1,_,rfl,hq1⟩:=zDC h;obtain⟨z2,z3,z4,_,rfl,hq2⟩:=zAv hq1;obtain⟨_,_,_,rfl,hq3⟩:=zAf hq2;obtain⟨_,rfl,hq4⟩:=zAm hq3;obtain⟨rfl,hq5⟩:=zBP hq4;replace h:=hq5;simp only[x9,qj] at h;obtain⟨⟨⟨⟨⟨rfl,h2⟩,h3⟩,h4⟩,h5⟩,h6⟩:=h;exact zPd ((zBX o t).e _ h5) ((zBX o e).e _ h6) (zAB h4) (zDj h2) h3
 | put t kk e =>
  refine⟨λst h=>?_,nh⟩;obtain⟨z1,_,_,rfl,hq1⟩:=zA9 h;obtain⟨z2,rfl,hq2⟩:=zAm hq1;obtain⟨_,_,_,rfl,hq3⟩:=zAu hq2;replace h:=hq3;simp only[x9] at h;obtain⟨⟨⟨⟨h1,h2⟩,h3⟩,h4⟩,h5⟩:=h;exact zPb ((zBX o t).e _ h3) ((zBX o kk).e _ h4) ((zBX o e).e _ h5) (zLW h2) (zI8 h1) rfl rfl
 | ife c a b iha ihb =>
  refine⟨λst h=>?_,nh⟩;obtain⟨_,_,_,_,rfl,hq1⟩:=zJp h;replace h:=hq1;simp only[x9] at h;obtain⟨⟨h1,h2⟩,h3⟩:=h;exact zSB ((zBX o c).t _ h1) (iha.2 _ h2) (ihb.2 _ h3)
 | for1 i it b ihb =>
  refine⟨λst h=>?_,nh⟩;obtain⟨z1,_,_,z2,_,rfl,hq1⟩:=zHe h;obtain⟨_,_,rfl,hq2⟩:=zAK hq1;obtain⟨rfl,hq3⟩:=zBP hq2;replace h:=hq3;simp only[x9] at h;obtain⟨⟨h2,h3⟩,h4⟩:=h;obtain⟨v1,v2,_⟩:=zBe h2;obtain⟨s1,s2⟩:=(zBX o it).s _ h3;exact zPc o.x.own o.x.calm (s1 _) (zFY nd v1 v2 (.inl (fnl _))) (ihb.2 _ h4) s2
 | ret e =>
  refine⟨λst h=>?_,nh⟩;obtain⟨z1,_,rfl,hq1⟩:=zCl h;obtain⟨_,rfl,hq2⟩:=zCF hq1;replace h:=hq2;exact zPa ((zBX o e).e _ h)
 | never=>exact⟨λst h=>zKR,nh⟩
end
section
variable {P:Program}{w:World}{K:W.Frag}{mg:Str->Option Value}{base:Heap}{k:Nat}{J:Gm}{U:Dm}{bs:List Str}
theorem zLJ {st:Stmt}(F:Fun K x qual st f fd)(sc:zAX N ps (zAA st))(ck:cSs' (zAA st) N bs b (zAE st)=true)(g:GOk P w K mg base k J bs)(d:DmOk P w K mg base k U) :
  FnOk P w K mg base CX0 (k+1) f fd ps (spM K (zAw ps.length N.length (evSs' J U b))) :=
 zPz F sc λcdv A outer s H E hr =>
  (zJD ⟨⟨g,hr,rfl,sc.nd,PassesOwn.never⟩,d⟩ (λ_=>rfl) b).2 _ ck
theorem DmOk.mono (d:DmOk P w K mg base k U)(h:k<=j):DmOk P w K mg base j U:=λx F m=>(d x F m).mono h
noncomputable def Dm.add (U:Dm)(x:Str)(F:MF):Dm:=U++[(x,F)]
theorem DmOk.one (d:DmOk P w K mg base k U)(h:k<=j)(e:zLk P w K mg base j x F (spec.lookup x)):DmOk P w K mg base j (U.add x F):=λy G z=>by
 rcases mem_append.mp z with z | z
 .exact (d y G z).mono h
 .grind
theorem DmOk.add {st:Stmt}(d:DmOk P w K mg base k U)(g:GOk P w K mg base k J bs)(F:Fun K x x st f fd)(sc:zAX N ps (zAA st))(ck:cSs' (zAA st) N bs b (zAE st)=true)(m:mg x=some (.ref f))(bi:zBA K fd ps [])(hx:spec.lookup x=none:=by decide +kernel) :
  DmOk P w K mg base (k+1) (U.add x (zAw ps.length N.length (evSs' J U b))):=d.one (Nat.le_succ k) (by rw[hx];exact⟨f,fd,ps,zLJ F sc ck g d,m,F.kp,bi⟩)
theorem DmOk.lift1 (d:DmOk P w K mg base k U)(g:GOk P w K mg base k J bs)(m:(x,F)∈J.fns)(hx:spec.lookup x=none:=by decide +kernel):DmOk P w K mg base k (U.add x (zGA F)):=by
 obtain⟨f,fd,ps,q1,q2,q3,q4⟩:=g.fn x F m;exact d.one (le_refl _) (by rw[hx];exact⟨f,fd,ps,DL.FnOk.lift q1,q2,q3,q4⟩)
theorem GOk.mono (g:GOk P w K mg base k J bs)(h:k<=j):GOk P w K mg base j J bs :=
 ⟨λx F m=>let ⟨f,fd,ps,h1,h2⟩:=g.fn x F m;⟨f,fd,ps,h1.mono h,h2⟩,g.cs,g.bt,trivial,trivial,trivial,λj L F e=>(g.lm j L F e).mono h,g.ob⟩
end
theorem zQg (hx:H x=some (.ins C dx fs))(nd:zD7 fs=false):zCL (fzH H) (fzH (upd H x o)):=λb u q n=>by
 obtain⟨q1,q2⟩:=zCH.mp q;by_cases e:b=x
 .grind
 .exact zCH.mpr ⟨by rw[zAN e];exact q1,q2⟩
theorem zAD.updI {K:W.Frag}(c:zAD K H T O)(hx:H x=some (.ins C dx fs))(nd:zD7 fs=false)(nm:mutF fs=false):zAD K (upd H x o) T O :=
 ⟨c.len,c.nd,λn ws q=>let ⟨p,h1,h2⟩:=c.at_ n ws q;⟨p,h1,by
  have ne:p.1≠x:=λz=>by
   obtain⟨u,g1,g2⟩:=h2.some
   simp_all
   cases g1;rw[show fz1 _=if mutF fs=true then none else some _ from rfl] at g2;grind
  have:=h2.monoF (zQg (o:=o) hx nd) (zAN ne) [];rwa [append_nil] at this⟩⟩
noncomputable def zD0:List (Str×(Mst->Option MR))->Mst->Option (List W×Mem)
 | [],s=>some ([],s.O)
 | p::r,s=>(p.2 s).bind λw=>(zD0 r ⟨s.G,w.2⟩).map λz=>(w.1::z.1,z.2)
noncomputable def mkR (c:Str)(ns:List Str)(z:List W×Mem):MR:=if mutK ns=true then (.ob c ns z.2.length,z.2++[z.1]) else (.obj c ns z.1,z.2)
noncomputable def zGD (c:Str)(n:Nat)(L:List (Str×(Mst->Option MR))):MF:=λws O=>if ws.length=n then (zD0 L ⟨none::ws.map some,O⟩).map (mkR c (L.map (·.1))) else none
def iT (K:W.Frag)(C dx x:Addr)(H1:Hp)(α0:List CA)(σ0:St)(G:List (Option W))(full:List Str)(L:List (Str×(Mst->Option MR))):TS:=λE B H =>
 ∃ M O fs vs acc z,B=σ0/\H x=some (.ins C dx fs)/\x∉(α0++M).map (·.1)/\Kp H1 H/\zAD K H (α0++M) O/\fs.map (·.1)++L.map (·.1)=full/\((fs.map (·.1)).map λn=>fs.lookup n)=vs.map some/\DenWL K H (α0++M) acc vs/\zD0 L ⟨G,O⟩=some z /\
  ∀ M' H' fs' vs',x∉(α0++M').map (·.1)->Kp H1 H'->zAD K H' (α0++M') z.2->H' x=some (.ins C dx fs')->fs'.map (·.1)=full->(full.map λn=>fs'.lookup n)=vs'.map some->DenWL K H' (α0++M') (acc++z.1) vs'->E.nx σ0 H'
noncomputable def zOk (full:List Str):Bool:=(List.range full.length).all λi=>!(zLD (full.take i))&&!(mutK (full.take i))
inductive zEI (X:Cx) (y:Str):List Stmt->List (Str×(Mst->Option MR))->Prop where
 | nil:zEI X y [] []
 | cons {f:Str} {e:Expr} {g:Mst->Option MR} {p p2 pos:Pos} {rest:List Stmt} {L:List (Str×(Mst->Option MR))} (h:GM X e g) (t:zEI X y rest L):zEI X y (.Assign [.Attribute (.Name y p) f p2] e pos::rest) ((f,g)::L)
theorem zFJ {f:Str}{v:V}:∀ {fs:List (Str×V)},f∉fs.map (·.1)->putF f v fs=fs++[(f,v)]
 | [],_=>rfl
 | (g,u)::r,h=>by
  rw[map_cons,mem_cons,not_or] at h;unfold putF;rw[if_neg (λz=>h.1 z.symm),zFJ h.2]
  rfl
theorem zMX {α0:List CA}{σ0:St}(cl:Cls X.K C)(na:∀ n∈full,zBE X.K C n)(nd:full.Nodup)(hp:zOk full=true)(hl:full.length<=100)(n1:H1 x=none)
  (hy:X.N[0]?=some y) (vy:Vis X.env.scope y) (oy:okN y=true) (Z4:σ0[0]?=some (some (.ref x))) (hlen:σ0.length=G.length) (hvar:∀ (i:Nat) w,G[i]?=some (some w)->∃ v,σ0[i]?=some (some v)/\DenW X.K H1 α0 w v) :
  ∀ {sts:List Stmt} {L:List (Str×(Mst->Option MR))},zEI X y sts L->PSs X sts (iT X.K C dx x H1 α0 σ0 G full L):=by
 intro sts L h
 induction h with
 | nil =>
  refine zGk.imp λE B H zz113=>?_
  obtain⟨M,O,fs,vs,acc,z,e1,hx,nx,k1,c1,hf,hv,da,ei,fin⟩:=zz113;cases ei;subst e1;simp only[map_nil,append_nil] at hf;exact fin M H fs vs nx k1 c1 hx hf (by rw[<- hf];exact hv) (by rw[append_nil];exact da)
 | @cons f e g p p2 pos rest L hg t ih =>
  refine(zFK (zQ8 (zC0 hy vy (zB9 oy).1 (zB9 oy).2) hg zI9) ih).imp λE B H zz114=>?_
  obtain⟨M,O,fs,vs,acc,z,e1,hx,nx,k1,c1,hf,hv,da,ei,fin⟩:=zz114;subst e1;obtain⟨w,ew,ei⟩:=bind_some ei;obtain⟨z',ez,e3⟩:=yq.mp ei;cases e3;have ms:MS X.K H (α0++M) O B G:=⟨c1,hlen,λi w q=>let ⟨v,q1,q2⟩:=hvar i w q;⟨v,q1,q2.mono k1 M⟩⟩;refine⟨α0++M,G,O,w,ms,ew,λv H2 M2 k2 c2 dv=>⟨.ref x,Z4,x,C,dx,fs,rfl,?_⟩⟩;have mf:f∈full:=by rw[<- hf];simp
  have lf:fs.length < full.length:=by
   have:=congrArg List.length hf;simp only[qQ,qy,xJ] at this;omega
  have tk:full.take fs.length=fs.map (·.1):=by
   rw[<- hf,List.take_append_of_le_length (by rw[qy];exact le_refl _),take_of_length_le (by rw[qy];exact le_refl _)]
  have nn:zD7 fs=false/\mutF fs=false:=by
   unfold zOk at hp;have:=all_eq_true.mp hp fs.length (mem_range.mpr lf);rw[tk,x9,Bool.not_eq_true',Bool.not_eq_true'] at this;exact this
  have ndn:=nn.1;have hx2:H2 x=some (.ins C dx fs):=zBI _ _ (k2 _ _ (zHq hx nn.2));have nx2:x∉(α0++(M++M2)).map (·.1):=by
   rw[<- q0];exact c2.out hx2 (zCH.mp (zHq hx2 nn.2)).2
  have nf:f∉fs.map (·.1):=by
   rw[<- hf] at nd;have:=(List.nodup_append.mp nd).2.2;exact λm=>this f m f (by simp) rfl
  refine⟨hx2,cl,na f mf,by omega,?_⟩;have up:zCL (fzH H2) (fzH (upd H2 x (.ins C dx (putF f v fs)))):=zQg hx2 ndn;have tr:∀ {ws:List W} {us:List V},DenWL X.K H2 (α0++M++M2) ws us->DenWL X.K (upd H2 x (.ins C dx (putF f v fs))) (α0++(M++M2)) ws us:=λ{ws us} q=>by
   have:=q.monoF up [];rw[append_nil,q0] at this;exact this
  refine⟨M++M2,w.2,putF f v fs,vs++[v],acc++[w.1],z',rfl,zAP,nx2,λb o q=>?_,?_,?_,?_,?_,ez,λM' H' fs' vs' a0 a1 a2 a3 a4 a5 a6=>fin M' H' fs' vs' a0 a1 a2 a3 a4 a5 (by simpa using a6)⟩
  .have q2:=k2 _ _ (k1 _ _ q);have ne:b≠x:=λz=>by
    rw[z] at q;have:=zBI _ _ q;rw[n1] at this;cases this
   obtain⟨g1,g2⟩:=zCH.mp q2;exact zCH.mpr ⟨by rw[zAN ne];exact g1,g2⟩
  .rw [<- q0];exact c2.updI hx2 ndn nn.2
  .rw [zFJ nf,x8,q0];exact hf
  .have e1:(putF f v fs).map (·.1)=fs.map (·.1)++[f]:=by rw[zFJ nf,x8];rfl
   rw[e1,x8,x8,<- hv];congr 1
   .refine map_congr_left λn hn=>?_
    rw[zBx,if_neg (λz=>nf (by rw[<- z];exact hn))]
   .show [(putF f v fs).lookup f]=[some v];rw[zBx,if_pos rfl]
  .exact tr ((da.mono k2 M2).append (.cons dv .nil))
noncomputable def zHN (sc:Scope)(N bs:List Str)(y:Str):List (Str×ME)->List Stmt->Bool
 | [],[]=>true
 | (f,m)::L,s::r=>(zBv s λz1 v _=>on1 z1 λz2=>zAr z2 λo f' _=>zAq o λy' _=>decide (y'=y)&&decide (f'=f)&&cM m sc N bs v)&&zHN sc N bs y L r
 | _,_=>false
section
variable {P:Program}{w:World}{K:W.Frag}{mg:Str->Option Value}{base:Heap}{k:Nat}{J:Gm}{U:Dm}{bs:List Str}
theorem zIC (o:XOkM X k J U bs):∀ {L:List (Str×ME)} {sts:List Stmt},zHN X.env.scope X.N bs y L sts=true->zEI X y sts (L.map λp=>(p.1,evM J U p.2))
 | [],[],_=>.nil
 | [],_::_,h=>(zzf h)
 | _::_,[],h=>(zzf h)
 | (f,m)::L,s::r,h=>by
  unfold zHN at h;rw[x9] at h;obtain⟨h,h2⟩:=h;obtain⟨z1,_,_,rfl,hq1⟩:=zA9 h;obtain⟨z2,rfl,hq2⟩:=zAm hq1;obtain⟨_,_,_,rfl,hq3⟩:=zAf hq2;obtain⟨_,_,rfl,hq4⟩:=zAK hq3;simp only[x9,qj] at hq4;obtain⟨⟨rfl,rfl⟩,h4⟩:=hq4;exact .cons ((zBX o m).e _ h4) (zIC o h2)
theorem zIx:∀ {fs:List (Str×V)},(fs.map (·.1)).Nodup->((fs.map (·.1)).map λn=>fs.lookup n)=(fs.map (·.2)).map some
 | [],_=>rfl
 | (n,v)::r,h=>by
  rw[map_cons,nodup_cons] at h;rw[map_cons,map_cons,map_cons,map_cons,<- zIx h.2];congr 1
  .show (match n==n with | true=>some v | false=>r.lookup n)=_;rw[beq_self_eq_true]
  .refine map_congr_left λm hm=>?_
   rw[lookup_cons];have:(m==n)=false:=beq_eq_false_iff_ne.mpr λz=>h.1 (z▸hm)
   rw[this]
theorem zG1 {f C:Addr}{qual c y:Str}{st:Stmt}{dV kV doc pm cdv ct oc:Value}{an od:Option Addr}{osl:Array (Option Value)}{ys:List Str}{L:List (Str×ME)}(lk:K.lookup f=some ⟨oc,od,.func (W.fnOf "__init__" qual (zAZ st) (zAE st) (zAA st) dV kV doc pm an cdv ct),osl⟩)
  (hcd:W.codeIn K cdv qual=true) (S:zAX (y::ys) (y::ys) (zAA st)) (vy:visB (zAA st) y=true) (oy:okN y=true) (ck:zHN (zAA st) (y::ys) bs y L (zAE st)=true) (g:GOk P w K mg base k J bs) (d:DmOk P w K mg base k U)
  (cn:zB6 K c C) (cl:Cls K C) (na:∀ n∈L.map (·.1),zBE K C n) (nd:(L.map (·.1)).Nodup) (hp:zOk (L.map (·.1))=true) (hdn:zLD (L.map (·.1))=true\/mutK (L.map (·.1))=true) (hl:(L.map (·.1)).length<=100) :
  FnOk P w K mg base CX0 (k+1) f (W.fnOf "__init__" qual (zAZ st) (zAE st) (zAA st) dV kV doc pm an cdv ct) (y::ys) (spI K C (zGD c ys.length (L.map λp=>(p.1,evM J U p.2)))):=by
 have names:(L.map λp=>(p.1,evM J U p.2)).map (·.1)=L.map (·.1):=by rw[map_map];rfl
 refine zSi lk hcd S (λvs H Q E h=>?_) λA outer s H vs Q E hr h=>?_
 .obtain ⟨x,dx,H1,us,T,O,ws,r,rfl,_,_,_,_,_,dw,hF,_⟩:=h;unfold zGD at hF;by_cases q:ws.length=ys.length
  .rw [xJ,<- dw.length,q];rfl
  .rw [if_neg q] at hF;cases hF
 obtain⟨x,dx,H1,us,T,O,ws,r,rfl,n1,n2,n3,rfl,cc,dw,hF,fin⟩:=h;unfold zGD at hF;have q:ws.length=ys.length:=Classical.byContradiction λz=>by rw[if_neg z] at hF;cases hF
 rw[if_pos q] at hF;obtain⟨z,ez,e3⟩:=yq.mp hF;subst e3;have o:XOkM (cxOf CX0 P w K mg base (y::ys) qual (zAA st) f cdv A outer s (upd (upd H1 dx (.own x)) x (.ins C dx [])) E).nox k J U bs:=⟨⟨g,hr,rfl,S.nd,PassesOwn.never⟩,d⟩;have st0:L2.zBt (y::ys) (.ref x::us)=some (.ref x)::us.map some:=by
  unfold L2.zBt;have:(y::ys).length - (V.ref x::us).length=0:=by rw[xJ,xJ,<- dw.length,q];omega
  rw[this];simp
 refine⟨_,PSs.nox (zMX (σ0:=L2.zBt (y::ys) (.ref x::us)) (G:=none::ws.map some) (α0:=T) (H1:=H1) (x:=x) (dx:=dx) cl na nd hp hl n1 rfl (zDl vy) oy (by rw[st0];rfl) (by rw[st0,xJ,xJ,qy,qy,dw.length]) (λi w e=>?_) (zIC o ck)),?_⟩
 .cases i with
  | zero=>cases e
  | succ i =>
   have e':(ws.map some)[i]?=some (some w):=e;rw[getElem?_map] at e';obtain⟨w',e1,e2⟩:=yq.mp e';cases e2;obtain⟨v,q1,q2⟩:=dw.get e1;refine⟨v,?_,q2⟩;rw[st0];show (us.map some)[i]?=_;rw[getElem?_map,q1];rfl
 .have sm:Same H1 (upd (upd H1 dx (.own x)) x (.ins C dx [])):=(zAQ n2 _).trans (zAQ (by rw[zAN (Ne.symm n3)];exact n1) _);refine⟨[],O,[],[],[],z,rfl,zAP,by rw[append_nil];exact cc.outN n1,zAi sm,by rw[append_nil];exact cc.same sm,names,rfl,.nil,ez,λM' H' fs' vs' a0 a1 a2 a3 a4 a5 a6=>?_⟩;rw[names] at fin;by_cases mu:mutK (L.map (·.1))=true
  .have er:mkR c (L.map (·.1)) z=(.ob c (L.map (·.1)) z.2.length,z.2++[z.1]):=if_pos mu;rw[er] at fin;have ev:vs'=fs'.map (·.2):=by
    rw[<- a4,zIx (by rw[a4];exact nd)] at a5;exact(List.map_inj_right (λ_ _ z=>xX z)).mp a5.symm
   rw[ev] at a6;have em:mutF fs'=true:=by unfold mutF;rw[a4];exact mu
   have a7:DenWL K H' (T++M'++[(x,.ins c (L.map (·.1)))]) z.1 (fs'.map (·.2)):=a6.mono (Kp.refl H') _;refine fin H' (M'++[(x,.ins c (L.map (·.1)))]) a1 ?_ ?_
   .rw [<- q0];exact a2.more a0 ⟨C,dx,fs',a3,em,cn,a4,a7⟩
   .rw [DenW,<- q0];exact⟨x,by rw[getElem?_append_right (by rw[a2.len];omega),a2.len,sub_self];rfl,rfl⟩
  .have er:mkR c (L.map (·.1)) z=(.obj c (L.map (·.1)) z.1,z.2):=if_neg mu;rw[er] at fin;have hdn:=hdn.resolve_right mu;have hd:zD7 fs'=true:=by unfold zD7;rw[a4];exact hdn
   refine fin H' M' a1 a2 ?_;rw[DenW];exact⟨x,vs',rfl,⟨C,dx,fs',zHq a3 (zH0 hd),hd,cn,a5⟩,a6⟩
theorem zD9 (hd:fd.defaults=.ref T)(lk:K.lookup T=some ⟨oc,od,.seq #[.none] n,sl⟩)(KX:K.In s.heap)
  (O7:bindArgs fd args=seqItems? fd.defaults>>=kk) (Y8:kk (some #[.none])=pure binds):BindsTo s fd args binds:=.of_defaults hd (KX _ _ lk) rfl O7 Y8
theorem DmOk.addC (d:DmOk P w K mg base k U)(hj:j < k)(hx:spec.lookup x=some (.mk c kw))(m:mg c=some (.ref C))(M:Mk K C f)(FO:FnOk P w K mg base CX0 j f fd ps (spI K C F))(b1:zBA K fd ps [])(b2:zBA K fd ps [.none])(b3:KB K fd ps kw) :
  DmOk P w K mg base k (U.add x F):=d.one (le_refl k) (by rw[hx];exact⟨j,C,f,fd,ps,hj,m,M,FO,b1,b2,b3⟩)
end
theorem zEB :∀ (names:List (Str×NameKind)) (acc:List (Str×Addr)),(∀ p∈names,p.2=.free->∃ c,cs.lookup p.1=some c) ->
  ∃ cl,clos names cs acc=some cl/\cl.map (·.1)=((names.filter λp=>p.2==.free).map (·.1)).reverse++acc.map (·.1)/\∀ p∈cl,p∈acc\/cs.lookup p.1=some p.2
 | [],acc,_=>⟨acc,rfl,by simp,λp hp=>.inl hp⟩
 | (x,k)::names,acc,h=>by
  unfold clos;by_cases e:(k==NameKind.free)=true
  .obtain ⟨c,ec⟩:=h (x,k) xq (eq_of_beq e);obtain⟨cl,h1,h2,h3⟩:=zEB names ((x,c)::acc) λp hp=>h p (qJ _ hp)
   dsimp only at ec;rw[if_pos e,ec];refine⟨cl,h1,?_,λp hp=>?_⟩
   .rw [h2,filter_cons];simp[e]
   .rcases h3 p hp with z | z
    .rcases mem_cons.mp z with z | z
     .right;rw[z];exact ec
     .exact .inl z
    .exact .inr z
  .obtain ⟨cl,h1,h2,h3⟩:=zEB names acc λp hp=>h p (qJ _ hp)
   rw[if_neg e];refine⟨cl,h1,?_,h3⟩;rw[h2,filter_cons];simp[e]
theorem zFs {cs:List (Str×Addr)}(inj:∀ x y c,cs.lookup x=some c->cs.lookup y=some c->x=y):∀ {cl:List (Str×Addr)},(∀ p∈cl,cs.lookup p.1=some p.2)->(cl.map (·.1)).Nodup->(cl.map (·.2)).Nodup
 | [],_,_=>by simp
 | p::cl,h,nd=>by
  rw[map_cons,nodup_cons] at nd ⊢;refine⟨λz=>?_,zFs inj (λq hq=>h q (qJ _ hq)) nd.2⟩;obtain⟨q,hq,e⟩:=mem_map.mp z;have h1:=h p xq;have h2:=h q (qJ _ hq);rw[e] at h2;exact nd.1 (mem_map.mpr ⟨q,hq,inj _ _ _ h2 h1⟩)
noncomputable def capD:List Nat->List (Option W)->Option (List D)
 | [],_=>some []
 | i::ix,G=>(match G[i]? with
  | some (some (.dat d))=>some d
  | some (some (.obj c ns l))=>some (dobj c ns l)
  | _=>none).bind λd=>(capD ix G).bind λds=>some (d::ds)
noncomputable def lamE (Fg:MF)(j:Nat)(L:LamI)(ix:List Nat)(ge:Mst->Option MR):Mst->Option MR:=λs=>(ge s).bind λw=>(capD ix s.G).bind λds=>if noLs ds=true then Fg [w.1,.dat (.lam j L ds)] w.2 else none
noncomputable def lamM (Fg:MF)(j:Nat)(L:LamI)(ix:List Nat)(np nN:Nat)(gp:Mst->Option OutM)(ge:Mst->Option MR):MF:=zAw np nN λs=>(gp s).bind λo=>match o with
 | .nx s'=>retM (lamE Fg j L ix ge) s'
 | _=>none
theorem zON {K:W.Frag}(ms:MS K H T O B G):∀ {ix:List Nat} {ds:List D},capD ix G=some ds->∃ us,DenL K (fzH H) ds us/\us.length=ix.length/\∀ (k i:Nat),ix[k]?=some i->∃ v,us[k]?=some v/\B[i]?=some (some v)
 | [],ds,e=>by
  cases e;exact⟨[],.nil,rfl,λk i z=>by simp at z⟩
 | i::ix,ds,e=>by
  unfold capD at e;obtain⟨d,e0,e⟩:=bind_some e;obtain⟨ds',e1,e⟩:=bind_some e;cases e;obtain⟨us,h1,h2,h3⟩:=zON ms e1;have hv:∃ v,B[i]?=some (some v)/\Den K (fzH H) d v:=by
   split at e0
   .rename_i d' q;cases e0;obtain⟨v,g1,g2⟩:=ms.get i _ q;rw[DenW] at g2;exact⟨v,g1,g2⟩
   .rename_i c ns l q;cases e0;obtain⟨v,g1,g2⟩:=ms.get i _ q;exact⟨v,g1,zH2 g2⟩
   .cases e0
  obtain⟨v,g1,g2⟩:=hv;refine⟨v::us,.cons g2 h1,by rw[xJ,xJ,h2],λk i' z=>?_⟩;cases k with
  | zero =>
   have:i=i':=by simpa using z
   subst this;exact⟨v,rfl,g1⟩
  | succ k=>exact h3 k i' (by simpa using z)
theorem zF0 {T M:Type}{R:T->M->Prop}:∀ {l:List T} {m:List M},l.length=m.length->(∀ (k:Nat) a b,l[k]?=some a->m[k]?=some b->R a b)->Paired R l m
 | [],[],_,_=>.nil
 | [],_::_,e,_=>by simp at e
 | _::_,[],e,_=>by simp at e
 | a::l,b::m,e,h=>.cons (h 0 a b (by simp) (by simp)) (zF0 (by simpa using e) λk a' b' q1 q2=>h (k+1) a' b' (by simpa using q1) (by simpa using q2))
noncomputable def zFM (H:Hp)(h:Heap)(S:List Addr):Hp:=λb=>if b∈S then (h.get? b).map (λo=>.frz o anyU) else H b
section
variable {X:Cx}{pins:List (Addr×Obj)}{B:St}{H:Hp}{s:Shared}
theorem zNA (I:Inv X pins B H s){S:List Addr}(hS:∀ b∈S,∃ y,X.env.cells.lookup y=some b)(hfn:∀ y,X.fn y=true) :
  Same H (zFM H s.heap S)/\(∀ b∈S,∃ o v,zFM H s.heap S b=some (.frz o anyU)/\s.heap.get? b=some o/\o.data=.cell v)/\(∀ b,b∉S->zFM H s.heap S b=H b)/\(∀ b∈S,X.s0.heap.objs.size<=b)/\Env0 X.prog X.w X.K X.mg X.base X.A X.stack s (zFM H s.heap S):=by
 have out:∀ {b:Addr},b∉S->zFM H s.heap S b=H b:=λz=>if_neg z
 have free:=λ{b} z=>let ⟨y,e⟩:=hS b z;I.freeC y b e
 have nS:∀ {b:Addr} {u:HO},H b=some u->b∉S:=λ{b u} e z=>by rw[free z] at e;cases e
 have sm:Same H (zFM H s.heap S):=λb u e=>by rw[out (nS e)];exact e
 have inn:∀ b∈S,∃ o v,zFM H s.heap S b=some (.frz o anyU)/\s.heap.get? b=some o/\o.data=.cell v:=λb z=>by
  obtain⟨y,e⟩:=hS b z;obtain⟨v,o,ho,hd⟩:=I.cell y b e;refine⟨o,v,?_,ho,hd⟩;unfold zFM
  simp_all
 have big:=λb z=>let ⟨y,e⟩:=hS b z;I.ok.cab y b (hfn y) e
 have e0:=I.env0;refine⟨sm,inn,λb z=>out z,big,⟨e0.frames,e0.mod,λb o e=>⟨(e0.bs b o e).1,?_⟩,e0.bsz,e0.funs,λb z=>?_,λb u e=>?_,e0.bare,e0.tree,λx hx c P e=>sm _ _ (e0.tabs x hx c P e)⟩⟩
 .have nb:b∉S:=λz=>absurd (lt_size e) (Nat.not_lt.mpr (le_trans I.ok.bsz (big b z)))
  rw[out nb];exact(e0.bs b o e).2
 .have nb:b∉S:=λz2=>by
   rcases mem_cons.mp (I.stkSub b z) with q | q
   .obtain ⟨y,e⟩:=hS b z2;exact I.cne y b e q
   .obtain ⟨_,o,ho,_⟩:=I.ok.funs.mem q;exact absurd (lt_size ho) (Nat.not_lt.mpr (big b z2))
  rw[out nb];exact e0.frf b z
 .by_cases z:b∈S
  .obtain ⟨o,v,q1,q2,_⟩:=inn b z;rw[q1] at e;cases e;exact zD1 q2
  .rw [out z] at e;exact(I.hok b u e).stay (λ_ _ _ q=>q) (λ_ q=>sm _ _ q) (λ_ _ q=>sm _ _ q) λ_ _ _ q _=>sm _ _ q
end
theorem zOV {S:List Addr}(u1:Un fs [] H H1 h h1)(big:∀ b∈S,h.objs.size<=b)(hL:h.objs.size<=L)(sm:Same H1 H2)(out:∀ b,b∉S->H2 b=H1 b)(u2:Un (L::fs) [] H2 H' h1 h'):Un fs [] H H' h h':=by
 have nS:∀ {b:Addr} {o:Obj},h.get? b=some o->b∉S:=λ{b o} e z=>absurd (lt_size e) (Nat.not_lt.mpr (big b z))
 have nL:∀ {b:Addr} {o:Obj},h.get? b=some o->b≠L:=λ{b o} e z=>absurd (lt_size e) (Nat.not_lt.mpr (by simp_all))
 have no:∀ {b:Addr} {o:Obj},h.get? b=some o->H b=none->H2 b=none:=λ{b o} e n=>by rw[out b (nS e)];exact u1.free b o e n (by simp)
 refine⟨λb o e n hb hx=>u2.keep b o (u1.keep b o e n hb hx) (no e n) (λz=>(mem_cons.mp z).elim (nL e) hb) hx,λb o e n hb hx=>?_,λb o e n hx=>?_,λb o e hx=>?_,λb xs e=>u2.tups b xs (sm _ _ (u1.tups b xs e)),λb o u e=>u2.frzs b o u (sm _ _ (u1.frzs b o u e)),λb q e=>u2.tbls b q (sm _ _ (u1.tbls b q e))⟩
 .obtain ⟨sl,e1⟩:=u1.slot b o e n hb hx;obtain⟨sl2,e2⟩:=u2.slot b _ e1 (no e n) (qJ _ hb) hx;exact⟨sl2,e2⟩
 .obtain ⟨o1,e1⟩:=u1.there b o e hx;exact u2.free b o1 e1 (no e n) hx
 .obtain ⟨o1,e1⟩:=u1.there b o e hx;exact u2.there b o1 e1 hx
structure zDY (K:W.Frag)(x:Str)(st:Stmt)(f:Addr)(N:List Str)(pre:List Stmt)(e:Expr)(g:Str)(L:LamI)(ix:List Nat):Prop where
 body:∃ q1 lp cp rp,zAE st=pre++[.Return (some (.Call (.Name g q1) [e,.Lambda L.params L.body L.scope lp] [] cp)) rp]
 star:zAV e=true
 qual:L.qual=x ++ ".<locals>." ++ "<lambda>"
 lam:x∈zBg
 fnq:zD4 K x=some f
 tab:∃ c P,tabQ K x=some (c,P)
 gl:glB (zAA st) g=true
 okg:okN g=true
 dflt:∀ env,defaultsOf L.params env=([],[])
 nd:(frN L).Nodup
 len:ix.length=(frN L).length
 cap:∀ (k:Nat) y,(frN L)[k]?=some y->∃ i,ix[k]?=some i/\N[i]?=some y/\(zAA st).names.lookup y=some .cell
 free:∀ p∈L.scope.names,p.2=.free->p.1∈frN L
theorem PS.nox {st:Stmt}(h:PS X.nox st t):PS X st t:=λpins s B H D I hw =>
 wpAny_mono (h pins s B H D (I.wish _) hw) (λ_ _ q=>q.unwish) λ_ _ z=>False.elim z
theorem zPK {K:W.Frag}{st:Stmt}(F:Fun K nm x st f fd)(sc:zAX N ps (zAA st))(LD:zDY K x st f N pre e g L ix)
  (hpre:(pre=[]/\gp=λs=>some (.nx s))\/∃ s1,pre=[s1]/\∀ cdv A outer s H E,Room k (A.deeper (envOfC x (zAA st) s.heap.objs.size f cdv))->GSM (cxOf CX0 P w K mg base N x (zAA st) f cdv A outer s H E).nox s1 gp)
  (he:∀ cdv A outer s H E,Room k (A.deeper (envOfC x (zAA st) s.heap.objs.size f cdv))->GM (cxOf CX0 P w K mg base N x (zAA st) f cdv A outer s H E).nox e ge)
  (gg:FnOk P w K mg base CX0 k fg fdg psg (spM K Fg)) (mgg:mg g=some (.ref fg)) (kg:W.keepIn K (.ref fg)=true) (bg:zBA K fdg psg []):FnOk P w K mg base CX0 (k+1) f fd ps (spM K (lamM Fg j L ix ps.length N.length gp ge)):=by
 obtain⟨oc,od,kV,doc,pm,an,cdv,ct,osl,rfl,lk,hcd⟩:=F.ex;have lenS:∀ vs H Q E,spM K (lamM Fg j L ix ps.length N.length gp ge) vs H Q E->vs.length=ps.length:=λvs H Q E h=>by
  obtain⟨T,O,ws,r,c,d,hF,n⟩:=h;unfold lamM zAw at hF;by_cases q:ws.length=ps.length/\ps.length<=N.length
  .rw [<- d.length];exact q.1
  .rw [if_neg q] at hF;cases hF
 refine⟨lenS,λA outer s H args us vs Q E hr e0 hb r hsp=>?_⟩;have hl:=lenS _ _ _ _ hsp;have KX:K.In s.heap:=e0.mod.kin.keeps λb o e=>(e0.bs b o e).1
 have lim:s.heap.NoLimit:=e0.mod.nolimit.keeps λb o e=>(e0.bs b o e).1
 have hkind:∀ y∈ps.zip us,(zAA st).names.lookup y.1=some .local\/((zAA st).names.lookup y.1=some .cell/\((cellsFrom (s.heap.objs.size+1) (zAA st).names []).lookup y.1).isSome=true):=λzz115 hy=>by
  obtain⟨n,v⟩:=zz115;rcases sc.par n (of_mem_zip hy).1 with q | q
  .exact .inl q
  .exact .inr ⟨q,W.cellsFrom_some _ _ _ (.inl q)⟩
 refine codeAny_call_function hr.depth (KX _ _ lk) rfl sc.co sc.gen rfl (W.codeRec_of KX hcd) (hb _ _ _ _ ?_);refine wpAny_newFunctionEnv_cells sc.kind hkind λenv he' s1 xx=>?_
 subst he';refine⟨lim.keeps xx.toInCall.keep,codeAny_func ?_⟩;have I:Inv (cxOf CX0 P w K mg base N x (zAA st) f cdv A outer s H E) [] (zBt N vs) H s1:=zGC sc hr.hd (by have:=hr.dp;show A.depth+1+100 < _;omega) e0 hl r xx;have hr2:Room k (cxOf CX0 P w K mg base N x (zAA st) f cdv A outer s H E).A:=hr.deeper _;obtain⟨q1,lp,cp,rp,eb⟩:=LD.body;obtain⟨T,O,ws,rr,cc,dw,hF,fin⟩:=hsp;unfold lamM zAw at hF;have hq:ws.length=ps.length/\ps.length<=N.length:=Classical.byContradiction λz=>by rw[if_neg z] at hF;cases hF
 rw[if_pos hq] at hF;obtain⟨o,eo,hF⟩:=bind_some hF;obtain⟨o1,eo1,eo2⟩:=bind_some (show ((gp _).bind _)=some o from eo);have ms0:MS K H T O (zBt N vs) (ws.map some++List.replicate (N.length - ps.length) none):=by
  have:=zHj (N:=N) cc dw (by rw[hq.1];exact hq.2);rwa [hq.1] at this
 obtain⟨c0,P0,etab⟩:=LD.tab;have ecode:cdv=.ref c0:=zI5 etab LD.fnq lk;have key:∀ (sa:Mst) (s1:Shared) (O6:St) (H1:Hp) (M1:List CA),Inv (cxOf CX0 P w K mg base N x (zAA st) f cdv A outer s H E) [] O6 H1 s1->MS K H1 (T++M1) sa.O O6 sa.G->Kp H H1->lamE Fg j L ix ge sa=some rr ->
   wpAny (model P w) (cxOf CX0 P w K mg base N x (zAA st) f cdv A outer s H E).A (eval (.Call (.Name g q1) [e,.Lambda L.params L.body L.scope lp] [] cp) (cxOf CX0 P w K mg base N x (zAA st) f cdv A outer s H E).env) (λu s'=>CE outer P w H s Q u s') (cxOf CX0 P w K mg base N x (zAA st) f cdv A outer s H E).xe s1:=by
  intro sa s1 O6 H1 M1 I ms kp1 hE;obtain⟨wv,ew,hE⟩:=bind_some hE;obtain⟨ds,ecap,hE⟩:=bind_some hE;have nls:noLs ds=true:=Classical.byContradiction λz=>by rw[if_neg z] at hE;cases hE
  rw[if_pos nls] at hE;obtain⟨cvs,dcap,lcap,gcap⟩:=zON ms ecap;refine wpAny_Call_Name_kw (zDx I (zEj LD.gl) mgg ?_ (zB9 LD.okg).1);refine W.callWith_K (h₀:=base) I.ok.mod.kin kg ?_ (zAB LD.star) rfl;rw[zAB LD.star];show wpAny _ _ (spliced ((false,eval e _)::backTo cp (starEach [.Lambda L.params L.body L.scope lp] _))) _ _ s1;refine Calls.spliced_cons (thn (PE.nox (he cdv A outer s H E hr2) [] s1 O6 H1 (λy H2=>∃ M2,Kp H1 H2/\zAD K H2 (T++M1++M2) wv.2/\DenW K H2 (T++M1++M2) wv.1 y) I ⟨T++M1,sa.G,sa.O,wv,ms,ew,λv H2 M2 k2 c2 d2=>⟨M2,k2,c2,d2⟩⟩) λu0 s2 zz116=>?_);obtain⟨y,H2,I1,r1,M2,kp2,c2,dy⟩:=zz116;have kc:∀ {y:Str},y∈frN L->(zAA st).names.lookup y=some .cell:=λ{y} my=>by
   obtain⟨kk,hk,e⟩:=List.getElem_of_mem my;obtain⟨_,_,_,q⟩:=LD.cap kk y (by rw[getElem?_eq_getElem hk,e]);exact q
  obtain⟨cl,hcl,hcn,hcm⟩:=zEB (cs:=(cxOf CX0 P w K mg base N x (zAA st) f cdv A outer s H E).env.cells) L.scope.names [] λp hp hf=>I1.ok.has p.1 (.inl (kc (LD.free p hp hf)))
  have hcn':cl.map (·.1)=frN L:=by rw[hcn];unfold frN;simp
  have hcm':∀ p∈cl,(cxOf CX0 P w K mg base N x (zAA st) f cdv A outer s H E).env.cells.lookup p.1=some p.2:=λp hp=>(hcm p hp).elim (λz=>absurd z (by simp)) id
  have hcd2:(cl.map (·.2)).Nodup:=zFs I1.ok.inj hcm' (by rw[hcn'];exact LD.nd);show wpAny _ _ (spliced ((false,eval (.Lambda L.params L.body L.scope lp) _)::backTo cp (starEach [] _))) _ _ s2;refine Calls.spliced_cons (zMT I1 (LD.dflt _) hcl ecode (e0.mod.codes x LD.lam c0 P0 etab) (I1.tabs x LD.lam c0 P0 etab) λf' c' ctv pm' oc' u1 H3 s3 sm nf hf hc' co I2=>?_);refine Calls.spliced_nil ⟨I2.kIn,?_⟩;have hS:∀ b∈cl.map (·.2),∃ y,(cxOf CX0 P w K mg base N x (zAA st) f cdv A outer s H E).env.cells.lookup y=some b:=λb z=>by
   obtain⟨p,hp,rfl⟩:=mem_map.mp z;exact⟨p.1,hcm' p hp⟩
  obtain⟨sm2,inn,out,big,e2⟩:=zNA I2 hS λ_=>rfl
  obtain⟨H4,eH4⟩:∃ H4:Hp,H4=zFM H3 s3.heap (cl.map (·.2)):=⟨_,rfl⟩;rw[<- eH4] at sm2 inn out e2;have sm3:Same H2 H4:=sm.trans sm2;have cells:zBG H4 cl cvs:=by
   have lc:cl.length=cvs.length:=by
    have:=congrArg List.length hcn';rw[qy] at this;rw[lcap,LD.len,this]
   refine zF0 lc λkk p v' g1 g2=>?_
   have gy:(frN L)[kk]?=some p.1:=by rw[<- hcn',getElem?_map,g1];rfl
   obtain⟨i,ei,epi,eki⟩:=LD.cap kk p.1 gy;obtain⟨v2,gv,st2⟩:=gcap kk i ei;rw[g2] at gv;cases gv;obtain⟨mm,hn,hloc⟩:=I2.loc;obtain⟨uu,ru,lo⟩:=hloc i p.1 v' epi st2 (.inr (.inl eki));obtain⟨o,vv',k1,k2,k3⟩:=inn p.2 (mem_map.mpr ⟨p,mem_of_getElem? g1,rfl⟩);rcases lo with ⟨q,_⟩ | ⟨_,c2,e1,o2,ho2,hd2⟩
   .have q':(zAA st).names.lookup p.1=some .local:=q;rw[eki] at q';cases q'
   .rw [hcm' p (mem_of_getElem? g1)] at e1;cases e1;rw[k2] at ho2;cases ho2;exact⟨o,uu,k1,hd2,ru⟩
  have la:zDb H4 L f' cvs:=⟨cl,pm',c',ctv,oc',u1,by rw[LD.qual];exact sm2 _ _ hf,sm2 _ _ hc',by rw[LD.qual];exact co,hcn',hcd2,cells⟩;have dl:DenW K H4 (T++M1++M2) (.dat (.lam j L ds)) (.ref f'):=by
   rw[DenW];refine Den.fz (by rw[noL];exact nls) ?_;rw[Den];exact⟨f',cvs,rfl,la,dcap.mono (Same.trans kp2 (zBI.trans sm3))⟩
  have ru0:Vals [y,.ref f'] [u0,.ref f']:=.cons r1 (.cons rfl .nil);have dwl:DenWL K H4 (T++M1++M2) [wv.1,.dat (.lam j L ds)] [y,.ref f']:=.cons (dy.keep (zAi sm3)) (.cons dl .nil);have sp':spM K Fg [y,.ref f'] H4 Q E:=⟨T++M1++M2,wv.2,_,rr,c2.same sm3,dwl,hE,λv H' M k3 c3 d3=>fin v H' (M1++(M2++M)) (Same.trans kp1 (Same.trans kp2 (Same.trans (zAi sm3) k3))) (by rw[<- q0,<- q0];exact c3) (by rw[<- q0,<- q0];exact d3)⟩;have hl2:([u0,.ref f']:List Value).length=psg.length:=by rw[<- ru0.length];exact gg.len _ _ _ _ sp'
  have bt:=bg s3 [u0,.ref f'] I2.kIn (by simpa using hl2);refine wpAny_call (codeAny_mono (gg.run _ _ s3 H4 _ _ _ Q E hr2 e2 bt (by simpa using ru0) sp') λr' s' hq=>?_);cases r' with
  | error e=>exact hq.elim
  | ok fl =>
   cases fl with
   | ret u =>
    obtain⟨v,H',os,bare,un,hok',rv,q⟩:=hq;exact⟨v,H',os.trans I2.os,bare,zOV I2.base big (le_refl _) sm2 out un,hok',rv,q⟩
   | next=>exact False.elim hq
   | brk=>exact False.elim hq
   | cont=>exact False.elim hq
 have last:∀ (sa:Mst) (s1:Shared) (O6:St) (H1:Hp) (M1:List CA),Inv (cxOf CX0 P w K mg base N x (zAA st) f cdv A outer s H E) [] O6 H1 s1->MS K H1 (T++M1) sa.O O6 sa.G->Kp H H1->retM (lamE Fg j L ix ge) sa=some o ->
   wpAny (model P w) (cxOf CX0 P w K mg base N x (zAA st) f cdv A outer s H E).A (execs [.Return (some (.Call (.Name g q1) [e,.Lambda L.params L.body L.scope lp] [] cp)) rp] (cxOf CX0 P w K mg base N x (zAA st) f cdv A outer s H E).env) (λfl s'=>∃ u,fl=.ret u/\CE outer P w H s Q u s') (cxOf CX0 P w K mg base N x (zAA st) f cdv A outer s H E).xe s1:=by
  intro sa s1 O6 H1 M1 I ms kp1 hE;obtain⟨r1,er,hE⟩:=bind_some hE;cases hE;cases hF;refine wpAny_execs_cons (wpAny_Return_some (thn (key sa s1 O6 H1 M1 I ms kp1 er) λu s' h=>?_));exact⟨u,rfl,h⟩
 have hex:wpAny (model P w) (cxOf CX0 P w K mg base N x (zAA st) f cdv A outer s H E).A (execs (zAE st) (cxOf CX0 P w K mg base N x (zAA st) f cdv A outer s H E).env) (λfl s'=>∃ u,fl=.ret u/\CE outer P w H s Q u s') (cxOf CX0 P w K mg base N x (zAA st) f cdv A outer s H E).xe s1:=by
  rw[eb];rcases hpre with ⟨rfl,rfl⟩ | ⟨st1,rfl,hs1⟩
  .cases eo1;exact last _ s1 _ H [] I (by rw[append_nil];exact ms0) (Kp.refl H) eo2
  .show wpAny _ _ (execs (st1::[_]) _) _ _ s1;have hb1:=PS.nox (hs1 cdv A outer s H E hr2 H T) [] s1 (zBt N vs) H { nx:=λO6 H1=>∃ sa M1,MS K H1 (T++M1) sa.O O6 sa.G/\Kp H H1/\retM (lamE Fg j L ix ge) sa=some o,rt:=λ_ _=>False } I ⟨[],⟨_,O⟩,o1,by rw[append_nil];exact ms0,Kp.refl H,eo1,by
    cases o1 with
    | nx sa=>exact λM1 O6 H1 m k=>⟨sa,M1,m,k,eo2⟩
    | rt r1=>cases eo2
    | bk _=>cases eo2
    | ct _=>cases eo2⟩
   refine wpAny_execs_cons (thn hb1 λfl s2 q=>?_);cases fl with
   | next =>
    obtain⟨O6,H1,I1,sa,M1,m,k,e⟩:=q;exact last sa s2 O6 H1 M1 I1 m k e
   | brk=>obtain⟨_,_,_,q⟩:=q;exact q.elim
   | cont=>obtain⟨_,_,_,q⟩:=q;exact q.elim
   | ret u=>obtain⟨_,_,_,_,_,q⟩:=q;exact q.elim
 refine wpAny_mono hex (λfl s' zz117=>?_) λe s' hs=>hs
 obtain⟨u,e,h⟩:=zz117;subst e;exact h
noncomputable def zTp (x:Str)(s:Stmt):LamI:=match s with
 | .Return (some (.Call _ [_,.Lambda a b c _] _ _)) _=>⟨x ++ ".<locals>." ++ "<lambda>",a,b,c⟩
 | s=>⟨x,zAZ s,.Name x ⟨0,0,0,0⟩,zAA s⟩
noncomputable def zMV (x:Str)(st:Stmt):LamI:=zTp x ((zAE st).getLast?.getD (.Pass ⟨0,0,0,0⟩))
noncomputable def zCf (st:Stmt):Expr:=match (zAE st).getLast?.getD (.Pass ⟨0,0,0,0⟩) with
 | .Return (some (.Call _ [e,_] _ _)) _=>e
 | _=>.Name "" ⟨0,0,0,0⟩
noncomputable def lamB (x:Str)(ys:List Str)(L:LamI):Bool:=(L.scope.kind==.function)&&!L.scope.isCoroutine&&!L.scope.isGenerator&&decide (x::ys).Nodup&&(L.scope.names.lookup x==some .local)&&ys.all (λy=>L.scope.names.lookup y==some .free)&&L.scope.names.all (λp=>!(p.2==.free)||ys.contains p.1)&&L.scope.names.all (λp=>!(p.2==.cell))&&decide (frN L=ys)
theorem zDe (h:lamB x ys L=true)(hb:∀ cl pm c ctv u,bindArgs (W.kla_fn "<lambda>" L.qual L.params L.body L.scope cl pm c ctv) ⟨[u],[]⟩=pure [(x,u)]):zFn x ys L/\frN L=ys:=by
 unfold lamB at h;simp only[x9,Bool.not_eq_true',qj,all_eq_true,Bool.or_eq_true,beq_iff_eq,List.contains_iff_mem,beq_eq_false_iff_ne] at h;obtain⟨⟨⟨⟨⟨⟨⟨⟨h1,h2⟩,h3⟩,h4⟩,h5⟩,h6⟩,h7⟩,h8⟩,h9⟩:=h;refine⟨⟨h1,h2,h3,h4,h5,h6,λy e=>?_,h8,hb⟩,h9⟩;rcases h7 _ (PySem.mem_of_lookup e) with z | z
 .simp_all
 .omega
theorem zDh (L:LamI):∀ p∈L.scope.names,p.2=.free->p.1∈frN L:=λp hp hf=>by
 unfold frN;rw[List.mem_reverse];exact mem_map.mpr ⟨p,mem_filter.mpr ⟨hp,by rw[hf];rfl⟩,rfl⟩
noncomputable def capB (sc:Scope)(ps ys:List Str)(ix:List Nat):Bool:=decide (ix.length=ys.length)&&(List.range ys.length).all λk=>match ys[k]?,ix[k]? with
 | some y,some i=>decide (ps[i]?=some y)&&(sc.names.lookup y==some .cell)
 | _,_=>false
theorem zIA (h:capB sc ps ys ix=true):ix.length=ys.length/\∀ (k:Nat) y,ys[k]?=some y->∃ i,ix[k]?=some i/\ps[i]?=some y/\sc.names.lookup y=some .cell:=by
 unfold capB at h;rw[x9,qj,all_eq_true] at h;refine⟨h.1,λk y e=>?_⟩;have hk:=(zzg e).1;have z:=h.2 k (mem_range.mpr hk);have hi:k < ix.length:=by rw[h.1];exact hk
 have ei:=getElem?_eq_getElem hi;rw[e,ei] at z;rw[x9,qj,beq_iff_eq] at z;exact⟨_,ei,z.1,z.2⟩
noncomputable def cPre (sc:Scope)(N bs:List Str):MT->List Stmt->Bool
 | .nil,[]=>true
 | .cons a .nil,[s]=>cS' sc N bs a s
 | _,_=>false
def zDa (J:Gm)(U:Dm):MT->Mst->Option OutM
 | .cons a _=>evS' J U a
 | _=>λs=>some (.nx s)
section
variable {P:Program}{w:World}{K:W.Frag}{mg:Str->Option Value}{base:Heap}{k:Nat}{J:Gm}{U:Dm}{bs:List Str}
theorem zN2 {st:Stmt}(d:DmOk P w K mg base k U)(gk:GOk P w K mg base k J bs)(F:Fun K nm x st f fd)(sc:zAX N ps (zAA st))(LD:zDY K x st f N pre e g L ix)
  (ck:cPre (zAA st) N bs mp pre=true) (ce:cM me (zAA st) N bs e=true) (mem:(g,Fg)∈U) (hg:spec.lookup g=none):FnOk P w K mg base CX0 (k+1) f fd ps (spM K (lamM Fg j L ix ps.length N.length (zDa J U mp) (evM J U me))):=by
 have D:=d g Fg mem;rw[hg] at D;obtain⟨fg,fdg,psg,g1,g2,g3,g4⟩:=D;have o:∀ cdv A outer s H E,Room k _->XOkM (cxOf CX0 P w K mg base N x (zAA st) f cdv A outer s H E).nox k J U bs:=λcdv A outer s H E hr=>⟨⟨gk,hr,rfl,sc.nd,PassesOwn.never⟩,d⟩
 refine zPK F sc LD ?_ (λcdv A outer s H E hr=>(zBX (o cdv A outer s H E hr) me).e _ ce) g1 g2 g3 g4;unfold cPre at ck;split at ck
 .exact .inl ⟨rfl,rfl⟩
 .exact .inr ⟨_,rfl,λcdv A outer s H E hr=>(zJD (o cdv A outer s H E hr) (λ_=>rfl) _).1 _ ck⟩
 .cases ck
theorem DmOk.addF {st:Stmt}(d:DmOk P w K mg base k U)(gk:GOk P w K mg base k J bs)(F:Fun K x x st f fd)(sc:zAX N ps (zAA st))(LD:zDY K x st f N pre e g L ix)
  (ck:cPre (zAA st) N bs mp pre=true) (ce:cM me (zAA st) N bs e=true) (m:mg x=some (.ref f)) (bi:zBA K fd ps []) (mem:(g,Fg)∈U) (hg:spec.lookup g=none:=by decide +kernel) (hx:spec.lookup x=none:=by decide +kernel) :
  DmOk P w K mg base (k+1) (U.add x (lamM Fg j L ix ps.length N.length (zDa J U mp) (evM J U me))):=d.one (Nat.le_succ k) (by rw[hx];exact⟨f,fd,ps,zN2 d gk F sc LD ck ce mem hg,m,F.kp,bi⟩)
theorem DmOk.addFM {st:Stmt}(d:DmOk P w K mg base k U)(gk:GOk P w K mg base k J bs)(F:Fun K nm x st f fd)(sc:zAX N ps (zAA st))(LD:zDY K x st f N pre e g L ix)
  (ck:cPre (zAA st) N bs mp pre=true) (ce:cM me (zAA st) N bs e=true) (bi:zBA K fd ps []) (mem:(g,Fg)∈U) (c1:zB6 K c C) (c2:Cls K C) (c3:Meth K C m f) (hx:spec.lookup x=some (.mth c m)) (hg:spec.lookup g=none:=by decide +kernel) :
  DmOk P w K mg base (k+1) (U.add x (lamM Fg j L ix ps.length N.length (zDa J U mp) (evM J U me))):=d.one (Nat.le_succ k) (by rw[hx];exact⟨C,f,fd,ps,c1,c2,c3,zN2 d gk F sc LD ck ce mem hg,bi⟩)
end
theorem tabs_of {K:W.Frag}{tl:List (Str×Addr×Addr)}(h1:tabQ K "thinned_covers"=tl.lookup ("thinned_covers":Str))(h2:tabQ K "Fill.films"=tl.lookup ("Fill.films":Str))(h3:tabQ K "Join.films"=tl.lookup ("Join.films":Str))(h4:tabQ K "Group.films"=tl.lookup ("Group.films":Str)):∀ x∈zBg,tabQ K x=tl.lookup x:=by
 intro x hx;simp only[zBg,mem_cons,not_mem_nil,or_false] at hx;rcases hx with rfl | rfl | rfl | rfl
 .omega
 .omega
 .omega
 .omega
theorem zHm (h1:ds.length=n+1)(h2:noFs ds=true)(h:EvP (G (ds.map λd=>some (d,false))) Q):EvP (lamD n G ds) Q:=by
 obtain⟨r,e,q⟩:=h;exact⟨r,by unfold lamD;rw[if_pos ⟨h1,h2⟩];exact e,q⟩
noncomputable def scB (N P:List Str)(sc:Scope):Bool:=(sc.kind==.function)&&!sc.isCoroutine&&!sc.isGenerator&&decide N.Nodup&&decide (N.take P.length=P)&&P.all (λx=>sc.names.lookup x==some .local||sc.names.lookup x==some .cell)&&sc.names.all λy=>!(y.2==.free)
theorem zNf (h:scB N P sc=true):zAX N P sc:=by
 unfold scB at h;simp only[x9,Bool.not_eq_true',qj,all_eq_true,Bool.or_eq_true,beq_iff_eq,beq_eq_false_iff_ne] at h;obtain⟨⟨⟨⟨⟨⟨h1,h2⟩,h3⟩,h4⟩,h5⟩,h6⟩,h7⟩:=h;exact⟨h1,h2,h3,h4,h5,h6,h7⟩
noncomputable def dB (st:Stmt)(n:Nat)(N bs:List Str)(b:S):Bool:=scB N (N.take n) (zAA st)&&cSs (zAA st) N bs b (zAE st)
noncomputable def dM (st:Stmt)(n:Nat)(N bs:List Str)(b:MT):Bool:=scB N (N.take n) (zAA st)&&cSs' (zAA st) N bs b (zAE st)
structure FT (K:W.Frag)(x:Str)(st:Stmt)(f:Addr):Prop where
 a:W.nsIn K mainGlobals x=some (some (.ref f))
 F:∃ fd,Fun K x x st f fd
theorem ft {K:W.Frag}{st:Stmt}{kV:Value}(a:W.nsIn K mainGlobals x=some (some (.ref f)))(l:K.lookup f=some ⟨oc,od,.func (W.fnOf x x (zAZ st) (zAE st) (zAA st) .none kV dc pm an cd ct),sl⟩)(c:W.codeIn K cd x=true)(k:W.keepIn K (.ref f)=true):FT K x st f:=⟨a,_,zKc l c k⟩
def bO (x q:Str)(st:Stmt)(ps:List Str):Prop:=∀ (kV doc pm:Value) (an:Option Addr) (cdv ct:Value) (us:List Value),us.length=ps.length->bindArgs (W.fnOf x q (zAZ st) (zAE st) (zAA st) .none kV doc pm an cdv ct) ⟨us,[]⟩=pure (ps.zip us)
theorem bz0 {st:Stmt}(hp:ps.length=0)(h:∀ {kV doc pm:Value} {an:Option Addr} {cdv ct:Value},bindArgs (W.fnOf x q (zAZ st) (zAE st) (zAA st) .none kV doc pm an cdv ct) ⟨[],[]⟩=pure (ps.zip [])):bO x q st ps:=λ_ _ _ _ _ _ us hl=>match us,hl.trans hp with | [],_=>h
theorem bz1 {st:Stmt}(hp:ps.length=1)(h:∀ {kV doc pm:Value} {an:Option Addr} {cdv ct a:Value},bindArgs (W.fnOf x q (zAZ st) (zAE st) (zAA st) .none kV doc pm an cdv ct) ⟨[a],[]⟩=pure (ps.zip [a])):bO x q st ps:=λ_ _ _ _ _ _ us hl=>match us,hl.trans hp with | [_],_=>h
theorem bz2 {st:Stmt}(hp:ps.length=2)(h:∀ {kV doc pm:Value} {an:Option Addr} {cdv ct a b:Value},bindArgs (W.fnOf x q (zAZ st) (zAE st) (zAA st) .none kV doc pm an cdv ct) ⟨[a,b],[]⟩=pure (ps.zip [a,b])):bO x q st ps:=λ_ _ _ _ _ _ us hl=>match us,hl.trans hp with | [_,_],_=>h
theorem bz3 {st:Stmt}(hp:ps.length=3)(h:∀ {kV doc pm:Value} {an:Option Addr} {cdv ct a b c:Value},bindArgs (W.fnOf x q (zAZ st) (zAE st) (zAA st) .none kV doc pm an cdv ct) ⟨[a,b,c],[]⟩=pure (ps.zip [a,b,c])):bO x q st ps:=λ_ _ _ _ _ _ us hl=>match us,hl.trans hp with | [_,_,_],_=>h
theorem bz5 {st:Stmt}(hp:ps.length=5)(h:∀ {kV doc pm:Value} {an:Option Addr} {cdv ct a b c d e:Value},bindArgs (W.fnOf x q (zAZ st) (zAE st) (zAA st) .none kV doc pm an cdv ct) ⟨[a,b,c,d,e],[]⟩=pure (ps.zip [a,b,c,d,e])):bO x q st ps:=λ_ _ _ _ _ _ us hl=>match us,hl.trans hp with | [_,_,_,_,_],_=>h
section
variable {P:Program}{w:World}{K:W.Frag}{mg:Str->Option Value}{base h:Heap}{k:Nat}{J:Gm}{U:Dm}{bs:List Str}{x:Str}{st:Stmt}{f:Addr}{N ps:List Str}{n:Nat}
theorem GOk.addT (g:GOk P w K mg base k J bs)(X:K.In h)(G:h.Ns mainGlobals mg)(t:FT K x st f)(ck:dB st n N bs b=true)(hb:bO x x st (N.take n)):GOk P w K mg base (k+1) (J.add x (dFun (N.take n).length N.length (evSs J b))) bs :=
 let ⟨_,E⟩:=t.F;g.add E (zNf (Bool.and_eq_true_iff.mp ck).1) (Bool.and_eq_true_iff.mp ck).2 (W.mg_of X G t.a) (E.binds hb)
theorem DmOk.addT (d:DmOk P w K mg base k U)(g:GOk P w K mg base k J bs)(X:K.In h)(G:h.Ns mainGlobals mg)(t:FT K x st f)(ck:dM st n N bs b=true)(hb:bO x x st (N.take n))(hx:spec.lookup x=none:=by decide +kernel):DmOk P w K mg base (k+1) (U.add x (zAw (N.take n).length N.length (evSs' J U b))) :=
 let ⟨_,E⟩:=t.F;d.add g E (zNf (Bool.and_eq_true_iff.mp ck).1) (Bool.and_eq_true_iff.mp ck).2 (W.mg_of X G t.a) (E.binds hb) hx
theorem GOk.aT (n:Nat)(N:List Str)(g:GOk P w K mg base k J bs)(X:K.In h)(G:h.Ns mainGlobals mg)(t:FT K x st f)(ck:dB st n N bs b=true:=by decide +kernel)(hb:bO x x st (N.take n):=by first | exact bz2 rfl rfl | exact bz1 rfl rfl | exact bz3 rfl rfl | exact bz4 rfl rfl | exact bz0 rfl rfl | exact bz5 rfl rfl):GOk P w K mg base (k+1) (J.add x (dFun (N.take n).length N.length (evSs J b))) bs:=g.addT X G t ck hb
theorem GOk.aU (N:List Str)(g:GOk P w K mg base k J bs)(X:K.In h)(G:h.Ns mainGlobals mg)(t:FT K x st f)(hb:bO x x st N:=by first | exact bz2 rfl rfl | exact bz1 rfl rfl | exact bz3 rfl rfl | exact bz4 rfl rfl | exact bz0 rfl rfl | exact bz5 rfl rfl):GOk P w K mg base k (J.add x (λ_=>none)) bs :=
 let ⟨_,E⟩:=t.F;g.addN E (W.mg_of X G t.a) (E.binds hb)
theorem DmOk.aT {b:MT}{j:Nat}(n:Nat)(N:List Str)(d:DmOk P w K mg base k U)(g:GOk P w K mg base j J bs)(X:K.In h)(G:h.Ns mainGlobals mg)(t:FT K x st f)(hj:j<=k:=by decide)(ck:dM st n N bs b=true:=by decide +kernel)(hb:bO x x st (N.take n):=by first | exact bz2 rfl rfl | exact bz1 rfl rfl | exact bz3 rfl rfl | exact bz4 rfl rfl | exact bz0 rfl rfl | exact bz5 rfl rfl)(hx:spec.lookup x=none:=by decide +kernel):DmOk P w K mg base (k+1) (U.add x (zAw (N.take n).length N.length (evSs' J U b))):=d.addT (g.mono hj) X G t ck hb hx
end
section
variable {P:Program}{w:World}{K:W.Frag}{mg:Str->Option Value}{base:Heap}{k:Nat}{J:Gm}{U:Dm}{bs:List Str}{m q c:Str}{st:Stmt}{C f:Addr}{N:List Str}{n:Nat}
structure FQ (K:W.Frag)(C f:Addr)(m q:Str)(st:Stmt):Prop where
 M:Meth K C m f
 F:∃ fd,Fun K m q st f fd
theorem fq {kV:Value}(a:W.findIn K (.ref C) m=some (some (.ref f)))(i:W.isFn K (.ref f)=true)(l:K.lookup f=some ⟨oc,od,.func (W.fnOf m q (zAZ st) (zAE st) (zAA st) .none kV dc pm an cd ct),sl⟩)(c:W.codeIn K cd q=true)(k:W.keepIn K (.ref f)=true):FQ K C f m q st:=⟨⟨a,i,k⟩,_,zKc l c k⟩
structure UC (K:W.Frag)(c:Str)(C:Addr)(ns:List Str):Prop where
 a:zB6 K c C
 c:Cls K C
 k:W.makesIn K C=true
 kc:W.keepIn K (.ref C)=true
 n:∀ n∈ns,zBE K C n
theorem nf0:∀ n∈([]:List Str),zBE K C n:=by simp
theorem nfc (h:W.findIn K (.ref C) x=some none)(t:∀ n∈ns,zBE K C n):∀ n∈x::ns,zBE K C n:=λn hn=>by
 cases hn with
 | head=>exact h
 | tail _ hn=>exact t n hn
theorem uc (a:W.nsIn K mainGlobals c=some (some (.ref C)))(pg:W.plainGet K C Str.empty=true)(hd:W.hasDictIn K C=true)(po:W.plainOver K C=true)(sa:W.findIn K (.ref C) "__setattr__"=some (some (.builtin "object.__setattr__")))(mk:W.makesIn K C=true)(kc:W.keepIn K (.ref C)=true)(n:∀ n∈ns,zBE K C n):UC K c C ns:=⟨a,⟨pg,hd,po,sa⟩,mk,kc,n⟩
theorem UC.o (u:UC K c C ns)(h:x∈ns):∀ C',zB6 K c C'->Cls K C'/\zBE K C' x:=λ_ q=>by
 obtain rfl:=zHL u.a q;exact⟨u.c,u.n x h⟩
end
theorem zQG :evM J U (.pur e)=zMQ (evE J e):=rfl
theorem zQF :evM J U (.var i)=varM i:=rfl
theorem zM6 :evM J U (.call n f es)=fnM U n f (evMs J U es):=rfl
theorem zM3  :evMs J U .nil=nilM:=rfl
theorem zK1 :evMs J U (.cons e es)=zNG (evM J U e) (evMs J U es):=rfl
theorem zQH :evM J U (.lst es)=lstM (evMs J U es):=rfl
theorem zSv :evM J U (.ix a b)=twoM (evM J U a) (evM J U b) ixW:=rfl
theorem zP9 :evT J U (.pur e)=zMR (asB (evE J e)):=rfl
theorem zKw  :evSs' J U .nil=(λs=>some (.nx s)):=rfl
theorem zCW :evSs' J U (.cons a b)=seqM (evS' J U a) (evSs' J U b):=rfl
theorem zMx :evS' J U (.set i e)=setM i (evM J U e):=rfl
theorem zKy :evS' J U (.setC i e)=setM i (evM J U e):=rfl
theorem zMy :evS' J U (.ret e)=retM (evM J U e):=rfl
theorem zHv :evS' J U (.ife c a b)=ifM (evT J U c) (evSs' J U a) (evSs' J U b):=rfl
theorem zM0 :evS' J U (.app t e)=appM (evM J U t) (evM J U e):=rfl
theorem zM5 :evM J U (.comp n ms u2 src el)=zHK ms 1 (evSrc J U src) (tgM n) (evM J U el):=rfl
theorem zMw :evSrc J U (.it a)=srcM (evM J U a):=rfl
section
variable {J:Gm}{U:Dm}{G:List (Option W)}{O:Mem}{s:Mst}
theorem zBm (hd:drS O G=G')(h:EvP (evE J e G') λr=>EvP (zC5 r O) Q):EvP (evM J U (.pur e) ⟨G,O⟩) Q:=by
 obtain⟨r,e1,z,e2,q⟩:=h;exact⟨z,by rw[zQG];unfold zMQ;rw[hd,e1,qx,e2],q⟩
theorem zCK (n:noL d=true)(h:Q (.dat d,O)):EvP (zC5 (d,.cl) O) Q:=⟨_,by cases d<;>exact if_pos (e:=none) n,h⟩
theorem zIs (n:noLs ds=true)(h:Q (.loc O.length,O++[ds.map .dat])):EvP (zC5 (.lst ds,.fr) O) Q:=⟨_,if_pos n,h⟩
theorem zAW (e:G[i]?=some (some w))(h:Q (w,O)):EvP (evM J U (.var i) ⟨G,O⟩) Q:=by
 refine⟨_,?_,h⟩;rw[zQF];unfold varM;rw[e]
theorem zCd (e:U[n]?=some (f,F))(h:EvP (evMs J U es s) λws=>EvP (F ws.1 ws.2) Q):EvP (evM J U (.call n f es) s) Q:=by
 obtain⟨ws,e1,r,e2,q⟩:=h;refine⟨r,?_,q⟩;rw[zM6];unfold fnM;unfold zLU
 simp_all
theorem zBY (h:Q ([],O)):EvP (evMs J U .nil ⟨G,O⟩) Q:=⟨_,by rw[zM3];rfl,h⟩
theorem zAS (h:EvP (evM J U e s) λw=>EvP (evMs J U es ⟨s.G,w.2⟩) λws=>Q (w.1::ws.1,ws.2)):EvP (evMs J U (.cons e es) s) Q:=by
 obtain⟨w,e1,ws,e2,q⟩:=h;exact⟨_,by rw[zK1];unfold zNG;rw[e1,qx,e2,qx],q⟩
theorem zPD (h:EvP (evMs J U es s) λr=>r.1.length<=10000/\Q (.loc r.2.length,r.2++[r.1])):EvP (evM J U (.lst es) s) Q:=by
 obtain⟨r,e1,l,q⟩:=h;exact⟨_,by rw[zQH];unfold lstM;rw[e1,qx,if_pos l],q⟩
theorem zM4 :evM J U (.tupd es)=zLt (evMs J U es):=rfl
theorem zH3:∀ ds:List D,datL (ds.map .dat)=some ds
 | []=>rfl
 | d::ds=>by show (datL (ds.map .dat)).map _=_;rw[zH3 ds];rfl
theorem zRi (h:EvP (evMs J U es s) λr=>r.1.length<=10000/\∃ ds:List D,r.1=ds.map .dat/\Q (.dat (.tup ds),r.2)):EvP (evM J U (.tupd es) s) Q:=by
 obtain⟨r,e1,l,ds,e2,q⟩:=h;exact⟨_,by rw[zM4];unfold zLt;rw[e1,qx,if_pos l,e2,zH3];rfl,q⟩
theorem zQI :evM J U (.bin op a b)=twoM (evM J U a) (evM J U b) (opM (binD op)):=rfl
theorem zTl (h:EvP (evM J U a s) λx=>EvP (evM J U b ⟨s.G,x.2⟩) λy=>∃ u v,drW y.2 x.1=some u/\drW y.2 y.1=some v/\EvP (binD op u v) λr=>EvP (zC5 r y.2) Q):EvP (evM J U (.bin op a b) s) Q:=by
 obtain⟨x,e1,y,e2,u,v,e3,e4,r,e5,z,e6,q⟩:=h;exact⟨_,by rw[zQI];unfold twoM;rw[e1,qx,e2,qx];unfold opM;rw[e3,qx,e4,qx,e5,qx,e6],q⟩
theorem zKF (e:ws=ds.map .dat)(h:EvP (F ds) λr=>EvP (zC5 r O) Q):EvP (zGA F ws O) Q:=by
 obtain⟨r,e1,z,e2,q⟩:=h;have sb:∀ (f:Nat->Option D) (ds:List D),sbL f (ds.map .dat)=some ds:=λf ds=>by
  induction ds with
  | nil=>rw[map_nil,sbL]
  | cons d ds ih=>rw[map_cons,sbL,sbW,qx,ih];rfl
 exact⟨z,by unfold zGA;rw[e,sb,qx,e1,qx,e2],q⟩
theorem m_ix (h:EvP (evM J U a s) λx=>EvP (evM J U b ⟨s.G,x.2⟩) λy=>EvP (ixW x.1 y.1 y.2) Q):EvP (evM J U (.ix a b) s) Q:=by
 obtain⟨x,e1,y,e2,r,e3,q⟩:=h;exact⟨_,by rw[zSv];unfold twoM;rw[e1,qx,e2,qx,e3],q⟩
theorem zDR (e:O[n]?=some ws)(e2:atI ws i=some w)(h:Q (w,O)):EvP (ixW (.loc n) (.dat (.int i)) O) Q:=by
 refine⟨_,?_,h⟩;show (O[n]?.bind λws=>(atI ws i).map λw=>_)=_
 simp_all
theorem zTT (hd:drS O G=G')(h:EvP (evE J e G') λr=>∃ b,r.1=.bl b/\Q (b,O)):EvP (evT J U (.pur e) ⟨G,O⟩) Q:=by
 obtain⟨r,e1,b,e2,q⟩:=h;refine⟨_,?_,q⟩;rw[zP9];unfold zMR;have:asB (evE J e) G'=some b:=by
  unfold asB;obtain⟨d,k⟩:=r
  simp_all
 simp_all
def KM (J:Gm)(U:Dm)(b:MT)(Q:OutM->Prop):OutM->Prop
 | .nx s=>EvP (evSs' J U b s) Q
 | o=>Q o
theorem zEO (h:Q (.nx s)):EvP (evSs' J U .nil s) Q:=⟨_,by rw[zKw],h⟩
theorem zAc (h:EvP (evS' J U a s) (KM J U b Q)):EvP (evSs' J U (.cons a b) s) Q:=by
 obtain⟨o,e1,q⟩:=h;cases o with
 | nx s' =>
  obtain⟨r,e2,q⟩:=q;exact⟨r,by rw[zCW];unfold seqM;rw[e1];exact e2,q⟩
 | rt r=>exact⟨_,by rw[zCW];unfold seqM;rw[e1,qx],q⟩
 | bk r=>exact⟨_,by rw[zCW];unfold seqM;rw[e1,qx],q⟩
 | ct r=>exact⟨_,by rw[zCW];unfold seqM;rw[e1,qx],q⟩
theorem zCY (h:EvP (evSs' J U b s) Q):KM J U b Q (.nx s):=h
theorem zGy (h:Q (.rt r)):KM J U b Q (.rt r):=h
theorem zEQ (h:EvP (evM J U e s) λr=>Q (.nx ⟨s.G.set i (some r.1),r.2⟩)):EvP (evS' J U (.set i e) s) Q:=by
 obtain⟨r,e1,q⟩:=h;exact⟨_,by rw[zMx];unfold setM;rw[e1];rfl,q⟩
theorem zGb (h:EvP (evM J U e s) λr=>Q (.nx ⟨s.G.set i (some r.1),r.2⟩)):EvP (evS' J U (.setC i e) s) Q:=by
 obtain⟨r,e1,q⟩:=h;exact⟨_,by rw[zKy];unfold setM;rw[e1];rfl,q⟩
theorem zCx (h:EvP (evM J U e s) λr=>Q (.rt r)):EvP (evS' J U (.ret e) s) Q:=by
 obtain⟨r,e1,q⟩:=h;exact⟨_,by rw[zMy];unfold retM;rw[e1];rfl,q⟩
theorem zNd (h:EvP (evT J U c s) λr=>(r.1=true->EvP (evSs' J U a ⟨s.G,r.2⟩) Q)/\(r.1=false->EvP (evSs' J U b ⟨s.G,r.2⟩) Q)):EvP (evS' J U (.ife c a b) s) Q:=by
 obtain⟨⟨r,m⟩,e1,q1,q2⟩:=h;cases r with
 | true =>
  obtain⟨o,e2,q⟩:=q1 rfl;exact⟨o,by rw[zHv];unfold ifM;rw[e1,qx];exact(if_pos rfl).trans e2,q⟩
 | false =>
  obtain⟨o,e2,q⟩:=q2 rfl;exact⟨o,by rw[zHv];unfold ifM;rw[e1,qx];exact(if_neg qY).trans e2,q⟩
theorem zHU (h:EvP (evM J U t s) λx=>EvP (evM J U e ⟨s.G,x.2⟩) λr=>∃ n ws,x.1=.loc n/\r.2[n]?=some ws/\ws.length<=10000/\Q (.nx ⟨s.G,r.2.set n (ws++[r.1])⟩)):EvP (evS' J U (.app t e) s) Q:=by
 obtain⟨_,e1,r,e2,n,ws,e3,e4,l,q⟩:=h;refine⟨_,?_,q⟩;rw[zM0];unfold appM;rw[e1,qx]
 simp_all
def KFM (Q:MR->Prop):OutM->Prop
 | .rt r=>Q r
 | .nx s=>Q (.dat .non,s.O)
 | _=>False
theorem zCZ (h1:ws.length=np)(h2:np<=nN)(h:EvP (g ⟨ws.map some++List.replicate (nN - np) none,O⟩) (KFM Q)):EvP (zAw np nN g ws O) Q:=by
 obtain⟨o,e1,q⟩:=h;cases o with
 | rt r=>exact⟨_,by unfold zAw;rw[if_pos ⟨h1,h2⟩,e1];rfl,q⟩
 | nx s=>exact⟨_,by unfold zAw;rw[if_pos ⟨h1,h2⟩,e1];rfl,q⟩
 | bk _=>exact q.elim
 | ct _=>exact q.elim
theorem zGg :∀ ds:List D,sbL f (ds.map .dat)=some ds
 | []=>by rw[map_nil,sbL]
 | d::ds=>by rw[map_cons,sbL,sbW,qx,zGg ds];rfl
theorem zGJ (e:O[n]?=some ws)(h:sbL (drN O k) ws=some ds):drN O (k+1) n=some (.lst ds):=by
 rw[drN,e,qx,h];rfl
theorem zK8 (e:O[n]?=some (ds.map .dat)):drN O (k+1) n=some (.lst ds):=zGJ e (zGg ds)
theorem zLB :drS O (some (.dat d)::G)=some (d,false)::drS O G:=rfl
theorem zLA (h:drN O 6 n=some d):drS O (some (.loc n)::G)=some (d,false)::drS O G:=by
 show ((drW O _).map λd=>_)::drS O G=_;unfold drW;rw[sbW,h]
 rfl
theorem zCJ (h:drS O G=G'):drS O (some (.dat d)::G)=some (d,false)::G':=by rw[<- h];exact zLB
theorem zAb (h:drS O G=G'):drS O (o::G)=(o.bind λw=>(drW O w).map λd=>(d,false))::G':=by rw[<- h];rfl
theorem zEg (h:EvP (evSrc J U src s) λz=>∃ y N,zBV (tgM n) (evM J U el) z.1 N 0 ⟨mask none ms s.G++[none],z.2⟩ []=some y/\y.1.length<=10000/\Q (.loc y.2.length,y.2++[y.1])):EvP (evM J U (.comp n ms x src el) s) Q:=by
 obtain⟨z,e1,y,N,e2,l,q⟩:=h;refine⟨_,?_,q⟩;rw[zM5];unfold zHK;rw[e1];simp;rw[zLO e2,qx,if_pos l]
theorem zQr (e:evM J U a s=some (.loc n,m))(h:Q (.live n,m)):EvP (evSrc J U (.it a) s) Q:=by
 refine⟨_,?_,h⟩;rw[zMw];unfold srcM;rw[e]
 rfl
end
end DL
end
section
namespace DL
open PySem L2
end DL
end
section
namespace DL
open PySem Spec PyProof.Rows L2
theorem zKz :evS' J U (.for1 i src b)=(λs=>(evSrc J U src s).bind λr=>zFZ (tgM i) (evSs' J U b) r.1 0 ⟨s.G,r.2⟩):=rfl
theorem zKx :evSrc J U (.rng a)=zL0 (evM J U a):=rfl
theorem zMz :evS' J U (.put t k e)=putM (evM J U t) (evM J U k) (evM J U e):=rfl
section
variable {J:Gm}{U:Dm}{G:List (Option W)}{O:Mem}{s:Mst}
def KLM (P:Mst->Prop)(Q:OutM->Prop):OutM->Prop
 | .nx s=>P s
 | .ct s=>P s
 | .bk s=>Q (.nx s)
 | .rt r=>Q (.rt r)
theorem zEn (ws:List W)(P:Nat->Mst->Prop)(it:∀ j s,P j s->itm s.O src=some ws)
  (step:∀ j w s,ws[j]?=some w->P j s->∃ s1,t w s=some s1/\EvP (b s1) (KLM (P (j+1)) Q)) (fin:∀ s,P ws.length s->Q (.nx s)) (h:P 0 s):EvP (zFZ t b src 0 s) Q:=by
 have key:∀ (k j:Nat) (s:Mst),j+k=ws.length->P j s->∃ o,forN t b src (k+1) j s=some o/\Q o:=by
  intro k
  induction k with
  | zero =>
   intro j s e p;have ej:j=ws.length:=by omega
   subst ej;refine⟨_,?_,fin s p⟩;rw[forN,it _ s p,qx,getElem?_eq_none (le_refl _)]
  | succ k ih =>
   intro j s e p;have ew:ws[j]?=some ws[j]:=getElem?_eq_getElem (by omega);obtain⟨s1,e1,o,e2,q⟩:=step j _ s ew p;cases o with
   | nx s' =>
    obtain⟨o',e3,q'⟩:=ih (j+1) s' (by omega) q;exact⟨o',by rw[forN,it j s p,qx,ew];dsimp only;rw[e1,qx,e2,qx];exact e3,q'⟩
   | ct s' =>
    obtain⟨o',e3,q'⟩:=ih (j+1) s' (by omega) q;exact⟨o',by rw[forN,it j s p,qx,ew];dsimp only;rw[e1,qx,e2,qx];exact e3,q'⟩
   | bk s'=>exact⟨_,by rw[forN,it j s p,qx,ew];dsimp only;rw[e1,qx,e2,qx],q⟩
   | rt r=>exact⟨_,by rw[forN,it j s p,qx,ew];dsimp only;rw[e1,qx,e2,qx],q⟩
 obtain⟨o,e,q⟩:=key ws.length 0 s (by omega) h;exact⟨o,zMq e,q⟩
theorem zFD (h:EvP (evSrc J U src s) λr=>EvP (zFZ (tgM i) (evSs' J U b) r.1 0 ⟨s.G,r.2⟩) Q):EvP (evS' J U (.for1 i src b) s) Q:=by
 obtain⟨r,e1,o,e2,q⟩:=h;exact⟨o,by rw[zKz];dsimp only;rw[e1];exact e2,q⟩
theorem zDA (h:EvP (evM J U a s) λx=>∃ n,x.1=.loc n/\Q (.live n,x.2)):EvP (evSrc J U (.it a) s) Q:=by
 obtain⟨⟨x,m⟩,e,n,e2,q⟩:=h;cases e2;exact zQr e q
theorem zC9 (h:EvP (evM J U a s) λx=>∃ j,x.1=.dat (.int j)/\(-(2^62)<=j/\j < 2^62)/\Q (.items ((rngL 0 j.toNat).map .dat),x.2)):EvP (evSrc J U (.rng a) s) Q:=by
 obtain⟨⟨x,m⟩,e,j,e2,l,q⟩:=h;cases e2;refine⟨_,?_,q⟩;rw[zKx];unfold zL0;rw[e];exact if_pos l
theorem zQv (h:EvP (evM J U e s) λr=>EvP (evM J U t ⟨s.G,r.2⟩) λx=>EvP (evM J U k ⟨s.G,x.2⟩) λj=>∃ n i ws m,x.1=.loc n/\j.1=.dat (.int i)/\j.2[n]?=some ws/\ixN ws.length i=some m/\Q (.nx ⟨s.G,j.2.set n (ws.set m r.1)⟩)):EvP (evS' J U (.put t k e) s) Q:=by
 obtain⟨r,e1,⟨x,mx⟩,e2,⟨j,mj⟩,e3,n,i,ws,m,e4,e5,e6,e7,q⟩:=h;refine⟨_,?_,q⟩;rw[zMz];unfold putM;rw[e1,qx,e2,qx,e3,qx]
 simp_all
end
end DL
namespace DL
open PySem L2
end DL
end
section
namespace DL
open PySem L2
noncomputable def news (m k:Nat):List W:=(List.range k).map λj=>.loc (m+j)
theorem zC4 (m i:Nat):news m (i+1)=news m i++[.loc (m+i)]:=by unfold news;rw[range_succ,x8];rfl
theorem zBw (m i:Nat):(news m i).length=i:=by unfold news;rw[qy,length_range]
theorem zO2 (h:i < k):(news m k)[i]?=some (.loc (m+i)):=by unfold news;rw[getElem?_map,getElem?_range h];rfl
theorem zEt (ws:List W)(P:Nat->Mst->List W->Prop)(it:∀ j s d,P j s d->itm s.O src=some ws)
  (step:∀ j w s d,ws[j]?=some w->P j s d->d.length<=10000/\∃ s1 r,t w s=some s1/\e s1=some r/\P (j+1) ⟨s1.G,r.2⟩ (d++[r.1])) (h:P 0 s []):∃ y s' N,zBV t e src N 0 s []=some y/\P ws.length s' y.1/\s'.O=y.2:=by
 have key:∀ (k j:Nat) (s:Mst) (d:List W),j+k=ws.length->P j s d->∃ y s',zBV t e src (k+1) j s d=some y/\P ws.length s' y.1/\s'.O=y.2:=by
  intro k
  induction k with
  | zero =>
   intro j s d ej p;have ej:j=ws.length:=by omega
   subst ej;refine⟨(d,s.O),s,?_,p,rfl⟩;rw[zBV,it _ s d p,qx,getElem?_eq_none (le_refl _)]
  | succ k ih =>
   intro j s d ej p;have hj:j < ws.length:=by omega
   have ew:ws[j]?=some ws[j]:=getElem?_eq_getElem hj;obtain⟨l,s1,r,e1,e2,q⟩:=step j _ s d ew p;obtain⟨y,s',e3,q'⟩:=ih (j+1) ⟨s1.G,r.2⟩ _ (by omega) q;refine⟨y,s',?_,q'⟩;rw[zBV,it j s d p,qx,ew]
   simp_all
 obtain⟨y,s',e,q⟩:=key ws.length 0 s [] (by omega) h;exact⟨y,s',_,e,q⟩
mutual
theorem zHV {f g:Nat->Option D}(hf:∀ n d,f n=some d->g n=some d):∀ {w:W} {d:D},sbW f w=some d->sbW g w=some d
 | .dat x,d,e=>by rw[sbW] at e ⊢;exact e
 | .loc n,d,e=>by rw[sbW] at e ⊢;exact hf n d e
 | .tup ws,d,e=>by
  rw[sbW] at e ⊢;obtain⟨ds,e1,rfl⟩:=yq.mp e;rw[sbL_mono hf e1]
  rfl
 | .obj c ns ws,d,e=>by rw[sbW] at e ⊢;exact e
theorem sbL_mono {f g:Nat->Option D}(hf:∀ n d,f n=some d->g n=some d):∀ {ws:List W} {ds:List D},sbL f ws=some ds->sbL g ws=some ds
 | [],ds,e=>by rw[sbL] at e ⊢;exact e
 | w::ws,ds,e=>by
  rw[sbL] at e ⊢;obtain⟨d,e1,e⟩:=bind_some e;obtain⟨ds',e2,rfl⟩:=yq.mp e;rw[zHV hf e1,qx,sbL_mono hf e2]
  rfl
end
theorem zHz (hm:∀ (n:Nat) (ws:List W),O[n]?=some ws->O1[n]?=some ws):∀ (k n:Nat) (d:D),drN O k n=some d->drN O1 k n=some d
 | 0,_,_,e=>by cases e
 | k+1,n,d,e=>by
  rw[drN] at e ⊢;obtain⟨ws,e1,e⟩:=bind_some e;obtain⟨ds,e2,rfl⟩:=yq.mp e;rw[hm n ws e1,qx,sbL_mono (λn d q=>zHz hm k n d q) e2]
  rfl
theorem zND (hm:∀ (n:Nat) (ws:List W),O[n]?=some ws->O1[n]?=some ws)(e:drW O w=some d):drW O1 w=some d:=zHV (λn d q=>zHz hm 6 n d q) e
theorem zAz {P:Mem}{n:Nat}{ws:List W}(h:O[n]?=some ws):(O++P)[n]?=some ws:=by
 rw[getElem?_append_left (zzg h).1];exact h
theorem zFG {g:Nat->Option D}{T:Type}(ad:T->Nat)(d:T->D):∀ l:List T,(∀ i∈l,g (ad i)=some (d i))->sbL g (l.map λi=>.loc (ad i))=some (l.map d)
 | [],_=>by rw[map_nil,sbL];rfl
 | i::l,h=>by
  rw[map_cons,sbL,sbW,h i xq,qx,zFG ad d l λj hj=>h j (qJ _ hj)]
  rfl
noncomputable def zK7:MT:=.cons (.ret (.comp 1 [] "k" (.rng (.var 0)) (.lst .nil))) .nil
def zIF (F:MF):Prop:=∀ (k:Nat) (O:Mem) (Q:MR->Prop),k<=100->Q (.loc (O.length+k),O++List.replicate k []++[news O.length k])->EvP (F [.dat (.int k)] O) Q
theorem zNB :zIF (zAw 1 1 (evSs' J U zK7)):=λk O Q hk h=>by
 refine zCZ rfl (by decide) ?_;unfold zK7;refine zAc (zCx (zEg (zC9 (zAW (w:=.dat (.int k)) rfl ⟨(k:Int),rfl,by omega,?_⟩))));rw[toNat_natCast];obtain⟨y,s',N,e,⟨o,p1,p2,p3⟩,p4⟩:=zEt (t:=tgM 1) (e:=evM J U (.lst .nil)) (src:=.items ((rngL 0 k).map .dat)) (s:=⟨mask none [] [some (.dat (.int k))]++[none],O⟩) ((rngL 0 k).map .dat)
  (λj s d=>∃ o:Option W,s=⟨[some (.dat (.int k)),o],O++List.replicate j []⟩/\d=news O.length j/\j<=k) (λj s d _=>rfl) (λj w s d ew zz118=>by
   obtain⟨o,p1,p2,p3⟩:=zz118;subst p1 p2;have hj:j < k:=by
    have:=(zzg ew).1;rw[qy,zAY] at this;exact this
   refine⟨by rw[zBw];omega,⟨[some (.dat (.int k)),some w],O++List.replicate j []⟩,(.loc (O++List.replicate j []).length,O++List.replicate j []++[[]]),rfl,?_,some w,?_,?_,by omega⟩
   .exact (zPD (Q:=λr=>r=(W.loc (O++List.replicate j []).length,O++List.replicate j []++[[]])) (zBY ⟨zero_le _,rfl⟩)).eq
   .rw [List.replicate_succ',q0]
   .rw [zC4,qQ,length_replicate]) ⟨none,by rw[List.replicate_zero,append_nil];rfl,rfl,zero_le _⟩
 have lw:((rngL 0 k).map W.dat).length=k:=by rw[qy,zAY]
 rw[lw] at p1 p2;subst p1;have e2:y=(news O.length k,O++List.replicate k []):=Prod.ext p2 p4.symm;refine⟨y,N,e,by rw[p2,zBw];omega,?_⟩;rw[e2];show KFM Q (.rt (.loc (O++List.replicate k []).length,_));rw[qQ,length_replicate];exact h
structure zBW (O:Mem)(a w h:Nat)(f:Nat->Nat->List D):Prop where
 cell:∀ r c,r < h->c<=w->O[a+r*(w+2)+c]?=some ((f r c).map .dat)
 row:∀ r,r < h->O[a+r*(w+2)+(w+1)]?=some (news (a+r*(w+2)) (w+1))
 top:O[a+h*(w+2)]?=some ((List.range h).map λr=>.loc (a+r*(w+2)+(w+1)))
theorem zBW.keep (t:zBW O a w h f)(k:∀ (n:Nat) (ws:List W),a<=n->n<=a+h*(w+2)->O[n]?=some ws->O1[n]?=some ws):zBW O1 a w h f:=by
 have lt:∀ r c,r < h->c<=w+1->r*(w+2)+c < h*(w+2):=λr c hr hc=>by
  have:=mul_le_mul_right (w+2) hr;grind
 exact⟨λr c hr hc=>k _ _ (by omega) (by have:=lt r c hr (by omega);omega) (t.cell r c hr hc),λr hr=>k _ _ (by omega) (by have:=lt r (w+1) hr (by omega);omega) (t.row r hr),k _ _ (by omega) (le_refl _) t.top⟩
theorem zBW.app (t:zBW O a w h f)(P:Mem):zBW (O++P) a w h f:=t.keep λ_ _ _ _ e=>zAz e
theorem zN4 (hc:c<=w+1)(hc':c'<=w+1)(e:r*(w+2)+c=r'*(w+2)+c'):r=r'/\c=c':=by
 have lt:∀ {r r' c c':Nat},c<=w+1->r < r'->r*(w+2)+c < r'*(w+2)+c':=λ{r r' c c'} hc hr=>by
  have:=mul_le_mul_right (w+2) hr;grind
 rcases Nat.lt_trichotomy r r' with q | q | q
 .have:=lt (c':=c') hc q;omega
 .grind
 .have:=lt (c':=c) hc' q;omega
noncomputable def more (f:Nat->Nat->List D)(r c:Nat)(q:D):Nat->Nat->List D:=λr' c'=>if r'=r/\c'=c then f r c++[q] else f r' c'
theorem zBW.more (t:zBW O a w h f)(hr:r < h)(hc:c<=w):zBW (O.set (a+r*(w+2)+c) (((f r c).map .dat)++[.dat q])) a w h (more f r c q):=by
 have hl:=(zzg (t.cell r c hr hc)).1;have hn:r*(w+2)+c < h*(w+2):=by
  have:=mul_le_mul_right (w+2) (show r+1<=h from hr);rw[Nat.succ_mul] at this;omega
 refine⟨λr' c' hr' hc'=>?_,λr' hr'=>?_,?_⟩
 .by_cases e:r'=r/\c'=c
  .obtain ⟨rfl,rfl⟩:=e;rw[getElem?_set_self hl];unfold DL.more;rw[if_pos ⟨rfl,rfl⟩,x8]
   rfl
  .unfold DL.more;rw[if_neg e,getElem?_set_ne]
   .exact t.cell r' c' hr' hc'
   .intro z;have:=zN4 (w:=w) (r:=r) (c:=c) (r':=r') (c':=c') (by omega) (by omega) (by omega);exact e ⟨this.1.symm,this.2.symm⟩
 .rw [getElem?_set_ne]
  .exact t.row r' hr'
  .intro z;have:=zN4 (w:=w) (r:=r) (c:=c) (r':=r') (c':=w+1) (by omega) (by omega) (by omega);omega
 .rw [getElem?_set_ne (by omega)];exact t.top
theorem zBW.other (t:zBW O a w h f)(hn:n < a\/a+h*(w+2) < n):zBW (O.set n x) a w h f:=t.keep λm ws h1 h2 e=>by
 rw[getElem?_set_ne (by omega)];exact e
theorem zNb (t:zBW O a w h f):drN O 6 (a+h*(w+2))=some (.lst ((List.range h).map λr=>D.lst ((List.range (w+1)).map λc=>.lst (f r c)))):=by
 refine zGJ t.top (zFG _ _ _ λr hr=>?_)
 simp_all
 have q:drN O 5 (a+r*(w+2)+w+1)=some (.lst ((List.range (w+1)).map λc=>.lst (f r c))):=by
  refine zGJ (t.row r hr) (zFG _ _ _ λc hc=>?_)
  simp_all
  exact zGJ (t.cell r c hr (by omega)) (zGg _)
 omega
noncomputable def tabE (ne:Nat):ME:=.comp 7 [] "row" (.rng (.var 1)) (.call ne "empty_lists" (.cons (.pur (.bin .Add (.var 0) (.int 1))) .nil))
theorem zNa (ee:U[ne]?=some (("empty_lists":Str),Fe))(he:zIF Fe)(hw:w<=6)(hh:h<=6)
  (hQ:∀ P:Mem,P.length=h*(w+2)+1->zBW (O++P) O.length w h (λ_ _=>[])->Q (.loc (O.length+h*(w+2)),O++P)) :
  EvP (evM J U (tabE ne) ⟨[some (.dat (.int w)),some (.dat (.int h)),x2,x3,x4,x5,x6],O⟩) Q:=by
 unfold tabE;refine zEg (zC9 (zAW (w:=.dat (.int h)) rfl ⟨(h:Int),rfl,by omega,?_⟩));rw[toNat_natCast];obtain⟨y,s',N,e,⟨o,P,p1,p2,p3,p4,p5,p6⟩,p7⟩:=zEt (t:=tgM 7) (e:=evM J U (.call ne "empty_lists" (.cons (.pur (.bin .Add (.var 0) (.int 1))) .nil))) (src:=.items ((rngL 0 h).map .dat)) (s:=⟨mask none [] [some (.dat (.int w)),some (.dat (.int h)),x2,x3,x4,x5,x6]++[none],O⟩) ((rngL 0 h).map .dat)
  (λj s d=>∃ (o:Option W) (P:Mem),s=⟨[some (.dat (.int w)),some (.dat (.int h)),x2,x3,x4,x5,x6,o],O++P⟩/\d=(List.range j).map (λr=>W.loc (O.length+r*(w+2)+(w+1)))/\P.length=j*(w+2)/\j<=h /\
   (∀ r c,r < j->c<=w->(O++P)[O.length+r*(w+2)+c]?=some [])/\∀ r,r < j->(O++P)[O.length+r*(w+2)+(w+1)]?=some (news (O.length+r*(w+2)) (w+1))) (λj s d _=>rfl) (λj x s d ew zz119=>by
   obtain⟨o,P,p1,p2,p3,p4,p5,p6⟩:=zz119;subst p1 p2;have hj:j < h:=by
    have:=(zzg ew).1;rw[qy,zAY] at this;exact this
   have lg:(O++P).length=O.length+j*(w+2):=by rw[qQ,p3]
   refine⟨by rw[qy,length_range];omega,⟨[some (.dat (.int w)),some (.dat (.int h)),x2,x3,x4,x5,x6,some x],O++P⟩,(.loc ((O++P).length+(w+1)),(O++P)++List.replicate (w+1) []++[news (O++P).length (w+1)]),rfl,?_,some x,P++List.replicate (w+1) []++[news (O++P).length (w+1)],?_,?_,?_,by omega,?_,?_⟩
   .refine (zCd (Q:=λr=>r=(W.loc ((O++P).length+(w+1)),(O++P)++List.replicate (w+1) []++[news (O++P).length (w+1)])) ee (zAS (zBm zLB (zDT (zAH rfl (zBp (zQX (zCK rfl (zBY ?_))))))))).eq;exact he (w+1) (O++P) _ (by omega) rfl
   .simp only [q0]
   .rw [range_succ,x8,lg];rfl
   .simp only [qQ,length_replicate,length_singleton,p3];rw[Nat.succ_mul];omega
   .intro r c hr hc;by_cases q:r < j
    .rw [<- q0,<- q0];exact zAz (zAz (p5 r c q hc))
    .have:r=j:=by omega
     subst this;rw[<- q0,<- q0,getElem?_append_left (by rw[qQ,length_replicate,lg];omega),getElem?_append_right (by rw[lg];omega),lg,getElem?_replicate];rw[if_pos (by omega)]
   .intro r hr;by_cases q:r < j
    .rw [<- q0,<- q0];exact zAz (zAz (p6 r q))
    .have:r=j:=by omega
     subst this;have ll:(O++P++List.replicate (w+1) []).length=O.length+r*(w+2)+(w+1):=by rw[qQ,length_replicate,lg]
     rw[<- q0,<- q0,getElem?_append_right (by rw[ll];exact le_refl _),ll,sub_self];show some (news (O++P).length (w+1))=_;rw[lg]) ⟨none,[],by rw[append_nil];rfl,rfl,by simp,zero_le _,λr c hr=>absurd hr (by omega),λr hr=>absurd hr (by omega)⟩
 have lw:((rngL 0 h).map W.dat).length=h:=by rw[qy,zAY]
 rw[lw] at p2 p3 p5 p6;subst p1;have e2:y=((List.range h).map (λr=>W.loc (O.length+r*(w+2)+(w+1))),O++P):=Prod.ext p2 p7.symm;refine⟨y,N,e,by rw[p2,qy,length_range];omega,?_⟩;rw[e2];have lg:(O++P).length=O.length+h*(w+2):=by rw[qQ,p3]
 show Q (.loc (O++P).length,(O++P)++[_]);rw[lg,q0];refine hQ _ (by rw[qQ,p3];rfl) ⟨λr c hr hc=>?_,λr hr=>?_,?_⟩
 .rw [<- q0];exact zAz (p5 r c hr hc)
 .rw [<- q0];exact zAz (p6 r hr)
 .rw [<- q0,getElem?_append_right (by rw[lg];exact le_refl _),lg,sub_self]
  rfl
theorem zN5 (e:atI ds i=some d)(h:Q (.dat d,O)):EvP (ixW (.dat (.tup ds)) (.dat (.int i)) O) Q:=by
 refine⟨_,?_,h⟩;show (atI ds i).map _=_
 simp_all
theorem zQQ (h:drW O x=some d):drS O (some x::G)=some (d,false)::drS O G:=by
 show _::drS O G=_
 simp_all
structure Pz where
 c:Int
 r:Int
 x:D
 y:D
 f:D
 g:D
abbrev Pz.d (z:Pz):D:=.tup [.int z.c,.int z.r,z.x,z.y]
structure PzB (w h:Nat)(z:Pz):Prop where
 r0:0<=z.r
 r1:z.r < h
 c0:-1<=z.c
 c1:z.c < w
 n:noL z.d=true
 f:noL z.f=true
 g:noL z.g=true
noncomputable def fc (p:Pz->D)(zs:List Pz)(r c:Nat):List D:=(zs.filter λz=>decide (z.r=(r:Int))&&decide (z.c+1=(c:Int))).map p
theorem zKi (hz:PzB w h z):fc p (zs++[z])=more (fc p zs) z.r.toNat (z.c+1).toNat (p z):=by
 have r0:=hz.r0;have c0:=hz.c0;unfold fc more;grind
noncomputable def zPG (nf nr:Nat):MT:=.cons (.set 6 (.pur (.bin .Add (.ix (.var 5) (.int 0)) (.int 1)))) (.cons (.app (.ix (.ix (.var 3) (.ix (.var 5) (.pur (.int 1)))) (.var 6)) (.pur (.call nf "fall" (.cons (.var 5) .nil)))) (.cons (.app (.ix (.ix (.var 4) (.ix (.var 5) (.pur (.int 1)))) (.var 6)) (.pur (.call nr "right" (.cons (.var 5) .nil)))) .nil))
theorem zKC {J:Gm}{U:Dm}{nf nr:Nat}{Ff Fr:List D->Option R}(ef:J.fns[nf]?=some (("fall":Str),Ff))(er:J.fns[nr]?=some (("right":Str),Fr)){w h a b:Nat}{z:Pz}(hf:Ff [z.d]=some (z.f,.cl))(hr:Fr [z.d]=some (z.g,.cl)){f g:Nat->Nat->List D}{x0 x1 x2 x6:Option W}{O:Mem}{Q:OutM->Prop}
  (hz:PzB w h z) (tf:zBW O a w h f) (tg:zBW O b w h g) (ab:a+h*(w+2) < b) (lf:∀ r c,(f r c).length<=10000) (lg:∀ r c,(g r c).length<=10000)
  (hQ:∀ O1:Mem,O1.length=O.length->(∀ m:Nat,m < a->O1[m]?=O[m]?)->(∀ m:Nat,b+h*(w+2) < m->O1[m]?=O[m]?)->zBW O1 a w h (more f z.r.toNat (z.c+1).toNat z.f)->zBW O1 b w h (more g z.r.toNat (z.c+1).toNat z.g)->Q (.nx ⟨[x0,x1,x2,some (.loc (a+h*(w+2))),some (.loc (b+h*(w+2))),some (.dat z.d),some (.dat (.int (z.c+1)))],O1⟩)) :
  EvP (evSs' J U (zPG nf nr) ⟨[x0,x1,x2,some (.loc (a+h*(w+2))),some (.loc (b+h*(w+2))),some (.dat z.d),x6],O⟩) Q:=by
 have r0:=hz.r0;have r1:=hz.r1;have c0:=hz.c0;have c1:=hz.c1;have eR:z.r=((z.r.toNat:Nat):Int):=by omega
 have eC:z.c+1=(((z.c+1).toNat:Nat):Int):=by omega
 have hR:z.r.toNat < h:=by omega
 have hC:(z.c+1).toNat<=w:=by omega
 have atT:∀ (a:Nat),atI ((List.range h).map λr=>W.loc (a+r*(w+2)+(w+1))) z.r=some (.loc (a+z.r.toNat*(w+2)+(w+1))):=λa=>by
  have q:atI ((List.range h).map λr=>W.loc (a+r*(w+2)+(w+1))) ((z.r.toNat:Nat):Int)=some (.loc (a+z.r.toNat*(w+2)+(w+1))):=zBT (by rw[getElem?_map,getElem?_range hR];rfl);rw[<- eR] at q;exact q
 have atR:∀ (a:Nat),atI (news (a+z.r.toNat*(w+2)) (w+1)) (z.c+1)=some (.loc (a+z.r.toNat*(w+2)+(z.c+1).toNat)):=λa=>by
  have q:atI (news (a+z.r.toNat*(w+2)) (w+1)) (((z.c+1).toNat:Nat):Int)=some (.loc (a+z.r.toNat*(w+2)+(z.c+1).toNat)):=zBT (zO2 (by omega));rw[<- eC] at q;exact q
 have pc1:atI [D.int z.c,.int z.r,z.x,z.y] 1=some (.int z.r):=rfl;have hn2:z.r.toNat*(w+2)+(z.c+1).toNat < h*(w+2):=by
  have:=mul_le_mul_right (w+2) (show z.r.toNat+1<=h from hR);rw[Nat.succ_mul] at this;omega
 unfold zPG;refine zAc (zEQ (zBm (zAb (zAb (zAb (zAb (zAb (zCJ rfl)))))) ?_));refine zDT (zBF (zAH rfl (zBp (zCp (d:=.int z.c) rfl (zBp (zQX (zCK rfl (zCY ?_))))))));(walk_at "s");refine zAc (zHU (m_ix (m_ix (zAW rfl (m_ix (zAW rfl (zBm rfl (zBp (zCK rfl ?_)))))))));refine zN5 pc1 (zDR tf.top (atT a) (zAW rfl (zDR (tf.row _ hR) (atR a) ?_)));refine zBm (zAb (zAb (zAb (zAb (zAb (zCJ rfl)))))) ?_;refine zAI ef (zAG (zAH rfl (n_cl (zAj ?_))));refine⟨_,hf,?_⟩;refine n_cl (zCK hz.f ⟨_,_,rfl,tf.cell _ _ hR hC,by rw[qy];exact lf _ _,zCY ?_⟩);have tf2:=tf.more (q:=z.f) hR hC;have tg2:=tg.other (n:=a+z.r.toNat*(w+2)+(z.c+1).toNat) (x:=((f z.r.toNat (z.c+1).toNat).map .dat)++[.dat z.f]) (by omega);have l2:(O.set (a+z.r.toNat*(w+2)+(z.c+1).toNat) (((f z.r.toNat (z.c+1).toNat).map .dat)++[.dat z.f])).length=O.length:=length_set;have o1:∀ m:Nat,m < a->(O.set (a+z.r.toNat*(w+2)+(z.c+1).toNat) (((f z.r.toNat (z.c+1).toNat).map .dat)++[.dat z.f]))[m]?=O[m]?:=λm hm=>getElem?_set_ne (by omega)
 have o2:∀ m:Nat,b+h*(w+2) < m->(O.set (a+z.r.toNat*(w+2)+(z.c+1).toNat) (((f z.r.toNat (z.c+1).toNat).map .dat)++[.dat z.f]))[m]?=O[m]?:=λm hm=>getElem?_set_ne (by omega)
 have go:∀ O4:Mem,O4.length=O.length->(∀ m:Nat,m < a->O4[m]?=O[m]?)->(∀ m:Nat,b+h*(w+2) < m->O4[m]?=O[m]?)->zBW O4 a w h (more f z.r.toNat (z.c+1).toNat z.f)->zBW O4 b w h g ->
   EvP (evSs' J U (.cons (.app (.ix (.ix (.var 4) (.ix (.var 5) (.pur (.int 1)))) (.var 6)) (.pur (.call nr "right" (.cons (.var 5) .nil)))) .nil) ⟨[x0,x1,x2,some (.loc (a+h*(w+2))),some (.loc (b+h*(w+2))),some (.dat z.d),some (.dat (.int (z.c+1)))],O4⟩) Q:=by
  intro O4 e1 e2 e3 tf2 tg2;refine zAc (zHU (m_ix (m_ix (zAW rfl (m_ix (zAW rfl (zBm rfl (zBp (zCK rfl ?_)))))))));refine zN5 pc1 (zDR tg2.top (atT b) (zAW rfl (zDR (tg2.row _ hR) (atR b) ?_)));refine zBm (zAb (zAb (zAb (zAb (zAb (zCJ rfl)))))) ?_;refine zAI er (zAG (zAH rfl (n_cl (zAj ?_))));refine⟨_,hr,?_⟩;refine n_cl (zCK hz.g ⟨_,_,rfl,tg2.cell _ _ hR hC,by rw[qy];exact lg _ _,zCY (zEO ?_)⟩);refine hQ _ (by rw[length_set];exact e1) (λm hm=>?_) (λm hm=>?_) (tf2.other (by omega)) (tg2.more hR hC)
  .rw [getElem?_set_ne (by omega)];exact e2 m hm
  .rw [getElem?_set_ne (by omega)];exact e3 m hm
 exact go _ l2 o1 o2 tf2 tg2
noncomputable def zGe (na nf nr nw ne:Nat):MT:=.cons (.setC 3 (tabE ne)) (.cons (.setC 4 (tabE ne)) (.cons (.for1 5 (.it (.pur (.call na "all_pieces" (.cons (.var 0) (.cons (.var 1) (.cons (.var 2) .nil)))))) (zPG nf nr)) (.cons (.ret (.comp 7 [] "row" (.rng (.var 1)) (.pur (.call nw "row_of_shares" (.cons (.ix (.var 3) (.var 7)) (.cons (.ix (.var 4) (.var 7)) .nil)))))) .nil)))
noncomputable def zBN (rz:Nat->List D)(k:Nat):Mem:=(List.range k).map λr=>(rz r).map W.dat
theorem zJx:∀ {ds:List D},(∀ d∈ds,noL d=true)->noLs ds=true
 | [],_=>rfl
 | d::ds,h=>by rw[noLs,h d xq,zJx λd m=>h d (qJ _ m)];rfl
theorem zOC (zs:List Pz)(r c:Nat):(fc p zs r c).length<=zs.length:=by unfold fc;rw[qy];exact List.length_filter_le _ _
structure ZOk (Fa Ff Fr Fw:List D->Option R)(w h:Nat)(sh:D)(zs:List Pz)(rz:Nat->List D):Prop where
 w2:w<=6
 h2:h<=6
 zl:zs.length<=5000
 all:Fa [.int w,.int h,sh]=some (.lst (zs.map Pz.d),.fr)
 b:∀ z∈zs,PzB w h z
 f:∀ z∈zs,Ff [z.d]=some (z.f,.cl)
 r:∀ z∈zs,Fr [z.d]=some (z.g,.cl)
 w:∀ r,r < h->Fw [.lst ((List.range (w+1)).map λc=>.lst (fc Pz.f zs r c)),.lst ((List.range (w+1)).map λc=>.lst (fc Pz.g zs r c))]=some (.lst (rz r),.fr)
 n:∀ r,r < h->noLs (rz r)=true
theorem zJI (ea:J.fns[na]?=some (("all_pieces":Str),Fa))(ef:J.fns[nf]?=some (("fall":Str),Ff))(er:J.fns[nr]?=some (("right":Str),Fr))(ew:J.fns[nw]?=some (("row_of_shares":Str),Fw))(ee:U[ne]?=some (("empty_lists":Str),Fe))
  (he:zIF Fe)        (ok:ZOk Fa Ff Fr Fw w h sh zs rz) (dx:drW O x=some sh)
  (hQ:∀ P:Mem,Q (.loc ((O++P).length+h),O++P++zBN rz h++[news (O++P).length h])):EvP (zAw 3 7 (evSs' J U (zGe na nf nr nw ne)) [.dat (.int w),.dat (.int h),x] O) Q:=by
 have pcs:=ok.b;have w2:=ok.w2;have h2:=ok.h2;have zl:=ok.zl;refine zCZ rfl (by decide) ?_;unfold zGe;show EvP (evSs' J U _ ⟨[some (.dat (.int w)),some (.dat (.int h)),some x,none,none,none,none],O⟩) _;refine zAc (zGb (zNa ee he w2 h2 λP1 g1 t1=>zCY ?_));(walk_at "s");refine zAc (zGb (zNa ee he w2 h2 λP2 g2 t2=>zCY ?_));(walk_at "s");have ta:=t1.app P2;have l12:(O++P1).length=O.length+h*(w+2)+1:=by rw[qQ,g1];omega
 rw[l12] at t2;rw[l12];have dx2:drW (O++P1++P2) x=some (sh):=zND (λm ws e=>zAz (zAz e)) dx;refine zAc (zFD (zDA (zBm (zCJ (zCJ (zQQ dx2))) ?_)));refine zAI ea (zAG (zAH rfl (n_cl (zAG (zAH rfl (n_cl (zAG (zAH (d:=sh) rfl (n_cl (zAj ?_)))))))))) ;refine⟨_,ok.all,?_⟩;refine n_fr (zIs (zJx λd m=>let ⟨z,hz,e⟩:=mem_map.mp m;e▸(pcs z hz).n) ⟨_,rfl,?_⟩);have lb:(O++P1++P2).length=O.length+h*(w+2)+1+h*(w+2)+1:=by rw[qQ,l12,g2];omega
 dsimp only;refine zEn (s:=⟨_,_⟩) ((zs.map Pz.d).map .dat) (λj s=>∃ (o5 o6:Option W) (O1:Mem),s=⟨[some (.dat (.int w)),some (.dat (.int h)),some x,some (.loc (O.length+h*(w+2))),some (.loc (O.length+h*(w+2)+1+h*(w+2))),o5,o6],O1⟩/\O1.length=(O++P1++P2).length+1/\(∀ m:Nat,m < O.length->O1[m]?=O[m]?)/\O1[(O++P1++P2).length]?=some ((zs.map Pz.d).map .dat) /\
  zBW O1 O.length w h (fc Pz.f (zs.take j))/\zBW O1 (O.length+h*(w+2)+1) w h (fc Pz.g (zs.take j))) ?_ ?_ ?_ ⟨none,none,O++P1++P2++[(zs.map Pz.d).map .dat],rfl,by rw[qQ];rfl,?_,?_,?_,?_⟩
 .rintro j s ⟨o5,o6,O1,rfl,m1,m2,m3,m4,m5⟩;exact m3
 .rintro j y s ey ⟨o5,o6,O1,rfl,m1,m2,m3,m4,m5⟩;rw[map_map,getElem?_map] at ey;obtain⟨z,ez2,rfl⟩:=yq.mp ey;have hz:=pcs z (mem_of_getElem? ez2);have et:zs.take (j+1)=zs.take j++[z]:=by rw[List.take_add_one,ez2];rfl
  refine⟨_,rfl,?_⟩;dsimp only;(walk_at "s");have ll:∀ (p:Pz->D) r c,(fc p (zs.take j) r c).length<=10000:=λp r c=>by
   have:=zOC (p:=p) (zs.take j) r c;rw[length_take] at this;omega
  refine zKC ef er (ok.f z (mem_of_getElem? ez2)) (ok.r z (mem_of_getElem? ez2)) hz m4 m5 (by omega) (ll _) (ll _) λO2 e1 e2 e3 t3 t4=>?_
  rw[<- zKi (p:=Pz.f) hz,<- et] at t3;rw[<- zKi (p:=Pz.g) hz,<- et] at t4;exact⟨_,_,O2,rfl,by rw[e1];exact m1,λm hm=>by rw[e2 m hm];exact m2 m hm,by rw[e3 _ (by rw[lb];omega)];exact m3,t3,t4⟩
 .rintro s ⟨o5,o6,O1,rfl,m1,m2,m3,m4,m5⟩;have el:((zs.map Pz.d).map W.dat).length=zs.length:=by rw[qy,qy]
  rw[el,List.take_length] at m4 m5;refine zCY ?_;refine zAc (zCx (zEg (zC9 (zAW (w:=.dat (.int h)) rfl ⟨(h:Int),rfl,by omega,?_⟩))));rw[toNat_natCast];obtain⟨y,s',N,e,⟨o,p1,p2,p3⟩,p4⟩:=zEt (t:=tgM 7) (e:=evM J U (.pur (.call nw "row_of_shares" (.cons (.ix (.var 3) (.var 7)) (.cons (.ix (.var 4) (.var 7)) .nil))))) (src:=.items ((rngL 0 h).map .dat)) (s:=⟨mask none [] [some (.dat (.int w)),some (.dat (.int h)),some x,some (.loc (O.length+h*(w+2))),some (.loc (O.length+h*(w+2)+1+h*(w+2))),o5,o6]++[none],O1⟩) ((rngL 0 h).map .dat)
   (λj s d=>∃ o:Option W,s=⟨[some (.dat (.int w)),some (.dat (.int h)),some x,some (.loc (O.length+h*(w+2))),some (.loc (O.length+h*(w+2)+1+h*(w+2))),o5,o6,o],O1++zBN rz j⟩/\d=news O1.length j/\j<=h) (λj s d _=>rfl) (λj y s d ey zz120=>by
    obtain⟨o,p1,p2,p3⟩:=zz120;subst p1 p2;have hj:j < h:=by
     have:=(zzg ey).1;rw[qy,zAY] at this;exact this
    have ey2:y=.dat (.int (j:Int)):=by
     unfold rngL at ey;rw[map_map,getElem?_map,getElem?_range hj] at ey;have:=(xX ey).symm;rw[this];simp
    subst ey2;have t5:=m4.app (zBN rz j);have t6:=m5.app (zBN rz j);have lr:(O1++zBN rz j).length=O1.length+j:=by rw[qQ];unfold zBN;rw[qy,length_range]
    refine⟨by rw[zBw];omega,⟨[some (.dat (.int w)),some (.dat (.int h)),some x,some (.loc (O.length+h*(w+2))),some (.loc (O.length+h*(w+2)+1+h*(w+2))),o5,o6,some (.dat (.int (j:Int)))],O1++zBN rz j⟩,(.loc (O1++zBN rz j).length,(O1++zBN rz j)++[(rz j).map .dat]),rfl,?_,some (.dat (.int (j:Int))),?_,?_,by omega⟩
    .refine (zBm (Q:=λr=>r=(W.loc (O1++zBN rz j).length,(O1++zBN rz j)++[(rz j).map .dat])) (zCJ (zCJ (zAb ((zLA (zNb t5)).trans (congrArg _ ((zLA (zNb t6)).trans (congrArg _ (zAb (zAb (zCJ rfl))))))))) ) ?_).eq;refine zAI ew (zAG (zBF (zAH rfl (zAH rfl ?_))));refine zA3 (d:=.lst ((List.range (w+1)).map λc=>.lst (fc Pz.f zs j c))) (zBT (by rw[getElem?_map,getElem?_range hj];rfl)) (n_cl (zAG (zBF (zAH rfl (zAH rfl ?_)))));refine zA3 (d:=.lst ((List.range (w+1)).map λc=>.lst (fc Pz.g zs j c))) (zBT (by rw[getElem?_map,getElem?_range hj];rfl)) (n_cl (zAj ?_));exact⟨_,ok.w j hj,n_fr (zIs (ok.n j hj) rfl)⟩
    .have:zBN rz (j+1)=zBN rz j++[(rz j).map .dat]:=by
      unfold zBN;rw[range_succ,x8]
      rfl
     rw[this,q0]
    .rw [zC4,lr]) ⟨none,by unfold zBN;rw[List.range_zero,map_nil,append_nil];rfl,rfl,zero_le _⟩
  have lw:((rngL 0 h).map W.dat).length=h:=by rw[qy,zAY]
  rw[lw] at p1 p2;subst p1;have e2:y=(news O1.length h,O1++zBN rz h):=Prod.ext p2 p4.symm;refine⟨y,N,e,by rw[p2,zBw];omega,?_⟩;rw[e2];have em:∃ P:Mem,O1=O++P:=by
   refine⟨O1.drop O.length,?_⟩;have:O=O1.take O.length:=by
    apply ext_getElem?;intro m;rw[List.getElem?_take];by_cases q:m < O.length
    .rw [if_pos q];exact(m2 m q).symm
    .rw [if_neg q,getElem?_eq_none (by omega)]
   exact(List.take_append_drop O.length O1).symm.trans (congrArg (λl=>l++O1.drop O.length) this.symm)
  obtain⟨P,rfl⟩:=em;have q:=hQ P;have lr:(O++P++zBN rz h).length=(O++P).length+h:=by rw[qQ];unfold zBN;rw[qy,length_range]
  show KFM Q (.rt (.loc (O++P++zBN rz h).length,_));rw[lr];exact q
 .intro m hm;rw[q0,q0,getElem?_append_left hm]
 .rw [getElem?_append_right (le_refl _),sub_self];rfl
 .exact ta.app _
 .exact t2.app _
abbrev Lp:=List (Nat×List D)
structure Ll (O:Mem)(n:Nat)(l:Lp):Prop where
 top:O[n]?=some (l.map λp=>.loc p.1)
 row:∀ p∈l,O[p.1]?=some (p.2.map .dat)
abbrev llD (l:Lp):D:=.lst (l.map λp=>.lst p.2)
theorem Ll.dr (e:Ll O n l):drW O (.loc n)=some (llD l):=zGJ e.top (zFG _ _ l λp hp=>zK8 (e.row p hp))
theorem Ll.keep (e:Ll O n l)(k1:O1[n]?=O[n]?)(k2:∀ p∈l,O1[p.1]?=O[p.1]?):Ll O1 n l:=⟨by rw[k1];exact e.top,λp hp=>by rw[k2 p hp];exact e.row p hp⟩
theorem Ll.lt (e:Ll O n l):n < O.length/\∀ p∈l,p.1 < O.length:=⟨(zzg e.top).1,λp hp=>(zzg (e.row p hp)).1⟩
theorem zAp {i:Nat}(e:G[i]?=some (some w))(h:drW O w=some d):(drS O G)[i]?=some (some (d,false)):=by
 unfold drS
 simp_all
theorem zA4 :drW O (.dat d)=some d:=rfl
theorem zDi (e:O[n]?=some (ds.map .dat)):drW O (.loc n)=some (.lst ds):=by unfold drW;exact zK8 e
noncomputable def lpT (b:Nat)(rz:Nat->List D)(h:Nat):Lp:=(List.range h).map λr=>(b+r,rz r)
theorem zKB (hp:p∈lpT b rz h):∃ r,r < h/\p=(b+r,rz r):=by
 obtain⟨r,hr,rfl⟩:=mem_map.mp hp;exact⟨r,mem_range.mp hr,rfl⟩
theorem zDm (rz:Nat->List D)(h:Nat):(zBN rz h).length=h:=by unfold zBN;rw[qy,length_range]
theorem zRq (O:Mem)(rz:Nat->List D)(h:Nat):Ll (O++zBN rz h++[news O.length h]) (O.length+h) (lpT O.length rz h):=by
 refine⟨?_,λp hp=>?_⟩
 .rw [getElem?_append_right (by rw[qQ,zDm];omega),qQ,zDm,sub_self];unfold lpT news;simp
 .obtain ⟨r,hr,rfl⟩:=zKB hp;dsimp only;rw[getElem?_append_left (by rw[qQ,zDm];omega)];unfold zBN
  simp_all
noncomputable def zP3 (nm:Nat):S:=.cons (.ret (.call nm "minus" (.cons (.ix (.ix (.var 0) (.int 2)) (.int 1)) (.cons (.ix (.ix (.var 0) (.int 3)) (.int 1)) .nil)))) .nil
def zNV (F:List D->Option R):Prop:=∀ (c r:Int) (p q:Pt) (n:Nat) (Q:R->Prop),PB n p->PB n q->n<=1000000->c.natAbs<=100->(∀ f,RB (4*n+20) f->Q (ratD f,.cl))->EvP (F [zEU c r p q]) Q
theorem zP2 {Fm:List D->Option R}(em:J.fns[nm]?=some (("minus":Str),Fm))(hm:zE2 Fm):zNV (dFun 1 1 (evSs J (zP3 nm))):=λc r p q n Q h1 h2 hn _ h=>by
 (walk_at "d");unfold zP3;(walk_at "st");(walk_at "w");exact h _ ((zDN h1.y h2.y).mono (by omega))
noncomputable def zJQ (ng nt nf nm nd:Nat):S:=.cons (.set 1 (.ix (.var 0) (.int 0))) (.cons (.ife (.cmp .Eq (.var 1) (.neg (.int 1))) (.cons (.ret (.glob ng "NOUGHT")) .nil) .nil) (.cons (.ret (.call nt "times" (.cons (.call nf "fall" (.cons (.var 0) .nil)) (.cons (.call nm "minus" (.cons (.tup (.cons (.bin .Add (.var 1) (.int 1)) (.cons (.int 1) .nil))) (.cons (.call nd "middle" (.cons (.ix (.ix (.var 0) (.int 2)) (.int 0)) (.cons (.ix (.ix (.var 0) (.int 3)) (.int 0)) .nil))) .nil))) .nil)))) .nil))
def zLf (F:List D->Option R):Prop:=∀ (c r:Int) (p q:Pt) (n:Nat) (Q:R->Prop),PB n p->PB n q->n<=1000000->c.natAbs<=100->(∀ f,RB (6*n+40) f->Q (ratD f,.cl))->EvP (F [zEU c r p q]) Q
theorem zL2 {Fm:List D->Option R}(eg:J.cs[ng]?=some (("NOUGHT":Str),.tup [.int 0,.int 1]))(et:J.fns[nt]?=some (("times":Str),Ft))(ef:J.fns[nf]?=some (("fall":Str),Ff))(em:J.fns[nm]?=some (("minus":Str),Fm))(ed:J.fns[nd]?=some (("middle":Str),Fd))
  (ht:zDX Ft) (hf:zNV Ff) (hm:zE2 Fm) (hd:MidF Fd):zLf (dFun 1 2 (evSs J (zJQ ng nt nf nm nd))):=λc r p q n Q h1 h2 hn hc h=>by
 (walk_at "d");unfold zJQ;(walk_at "st");(walk_at "w");refine zA6 (λz=>?_) λz=>?_
 ·(walk_at "w");exact h 0 (zBf.mono (by omega))
 .have rc:RB 8 ((c+1:Int):Rat):=zHX (zDQ (k:=200) (by omega) (by decide)) (by decide);(walk_at "w");refine hf c r p q n _ h1 h2 hn hc λf rf=>?_
  (walk_at "w");refine hd _ _ n _ h1.x h2.x (by omega) λm rm=>?_
  (walk_at "w");rw[zGz];(walk_at "w");exact h _ ((zA0 rf (zDN rc rm)).mono (by omega))
noncomputable def allB (ns np:Nat):S:=.cons (.set 3 (.lst .nil)) (.cons (.for1 4 (.it (.var 2)) (.cons (.for1 5 (.it (.call ns "sides" (.cons (.var 4) .nil))) (.cons (.ext 3 (.call np "pieces" (.cons (.var 0) (.cons (.var 1) (.cons (.var 5) .nil))))) .nil)) .nil)) (.cons (.retOwn 3) .nil))
structure FlB (n P w h:Nat)(rs:List (List Pt)):Prop where
 w2:w<=6
 h2:h<=6
 m:rs.length<=6
 b:8*n+20<=1000000
 p:P<=12
 r:∀ ps∈rs,ps.length<=P/\∀ p∈ps,PB n p
def AllF (F:List D->Option R):Prop:=∀ (n P w h:Nat) (rs:List (List Pt)) (Q:R->Prop),FlB n P w h rs->(∀ ds,ds.length<=rs.length*(P*(w+h+4))->(∀ d∈ds,isZ (8*n+20) w h d)->Q (.lst ds,.fr))->EvP (F [.int w,.int h,zBk rs]) Q
theorem zTH (es:J.fns[ns]?=some (("sides":Str),Fs))(ep:J.fns[np]?=some (("pieces":Str),Fp))(hs:zLe Fs)(hp:zHP Fp):AllF (dFun 3 6 (evSs J (allB ns np))):=λn P w h rs Q fb hQ=>by
 obtain⟨w2,h2,hn,nb,pb,hr⟩:=fb;(walk_at "d");unfold allB;(walk_at "st");refine zAF ?_;(walk_at "e");have kb:P*(w+h+4)<=12*16:=Nat.mul_le_mul pb (by omega);have tb:rs.length*(P*(w+h+4))<=6*(12*16):=Nat.mul_le_mul hn kb;refine zAF (zCI (zGa (zAH rfl (w_cl (ds:=rs.map zJP) ?_))));refine zCg (λxs G=>∃ (acc:List D) (a b:Option (D×Bool)),G=[some (.int (w:Int),false),some (.int (h:Int),false),some (zBk rs,false),some (.lst acc,true),a,b]/\(∀ x∈xs,x∈rs.map zJP)/\acc.length+xs.length*(P*(w+h+4))<=rs.length*(P*(w+h+4))/\∀ d∈acc,isZ (8*n+20) w h d) ?_ ?_ _ _ ⟨[],none,none,rfl,λ_ m=>m,by simp,by simp⟩
 .rintro x xs G ⟨acc,a,b,rfl,hx,hl,hz⟩;obtain⟨ps,mp,rfl⟩:=mem_map.mp (hx x xq);obtain⟨p1,p2⟩:=hr ps mp;have pk:=mul_le_mul_right (w+h+4) p1;rw[xJ,Nat.succ_mul] at hl;refine⟨_,rfl,?_⟩;(walk_at "s");refine zAF (zCI (zGa (zAI es (zAG (zAH rfl (n_cl (zAj ?_)))))));refine hs ps _ (by omega) (n_fr (w_fr ?_));refine zCg (λys G=>∃ (acc:List D) (b:Option (D×Bool)),G=[some (.int (w:Int),false),some (.int (h:Int),false),some (zBk rs,false),some (.lst acc,true),some (zJP ps,false),b]/\(∀ y∈ys,y∈(DM.zFv ps).map zFw)/\acc.length+ys.length*(w+h+4)+xs.length*(P*(w+h+4))<=rs.length*(P*(w+h+4))/\∀ d∈acc,isZ (8*n+20) w h d) ?_ ?_ _ _ ⟨acc,b,rfl,λ_ m=>m,by rw[qy,DM.zJG];omega,hz⟩
  .rintro y ys G ⟨acc,b,rfl,hy,hl,hz⟩;obtain⟨s,ms,rfl⟩:=mem_map.mp (hy y xq);obtain⟨m1,m2⟩:=DM.zJF ms;rw[xJ,Nat.succ_mul] at hl;refine⟨_,rfl,?_⟩;(walk_at "s");refine zAF (zSz rfl (zAI ep (zAG (zAH rfl (n_cl (zAG (zAH rfl (n_cl (zAG (zAH rfl (n_cl (zAj ?_))))))))))));refine hp w h s n _ (p2 _ m1) (p2 _ m2) (by omega) (by omega) (by omega) λds l1 l2=>?_
   refine n_fr ⟨_,rfl,by omega,zBZ ⟨_,_,rfl,λz m=>hy z (qJ _ m),by rw[qQ];omega,λd m=>(mem_append.mp m).elim (hz d) (l2 d)⟩⟩
  .rintro G ⟨acc,b,rfl,_,hl,hz⟩;exact k_nx (zBZ ⟨acc,_,b,rfl,λz m=>hx z (qJ _ m),by omega,hz⟩)
 .rintro G ⟨acc,a,b,rfl,_,hl,hz⟩;refine k_nx ?_;(walk_at "w");exact hQ _ (by omega) hz
noncomputable def rowB (np nt ng:Nat):S:=.cons (.set 2 (.lst .nil)) (.cons (.set 3 (.glob ng "NOUGHT")) (.cons (.for1 4 (.r1 (.bin .Sub (.len (.var 0)) (.int 1))) (.cons (.set 3 (.call np "plus" (.cons (.var 3) (.cons (.call nt "total" (.cons (.ix (.var 0) (.var 4)) .nil)) .nil)))) (.cons (.app 2 (.call np "plus" (.cons (.var 3) (.cons (.call nt "total" (.cons (.ix (.var 1) (.bin .Add (.var 4) (.int 1))) .nil)) .nil)))) .nil))) (.cons (.retOwn 2) .nil)))
def RowF (F:List D->Option R):Prop:=∀ (fs gs:List D) (w L B:Nat) (Q:R->Prop),fs.length=w+1->gs.length=w+1->w<=6->L<=5000->L*(B+1)<=4000000->(∀ d∈fs++gs,∃ f:List Rat,d=zCj f/\f.length<=L/\∀ q∈f,RB B q)->(∀ qs:List Rat,qs.length=w->(∀ q∈qs,RB ((w+1)*(L*(B+1)+2)+1) q)->Q (zCj qs,.fr))->EvP (F [.lst fs,.lst gs]) Q
theorem zNZ (h:f.length<=L/\∀ q∈f,RB B q):WB f (f.length*(B+1))/\f.length*(B+1)<=L*(B+1)/\RB (L*(B+1)+1) (DM.sumR f):=by
 have a:=zNY h.2;have b:f.length*(B+1)<=L*(B+1):=mul_le_mul_right _ h.1;exact⟨a,b,(zNX a).mono (Nat.succ_le_succ b)⟩
theorem zQz (ep:J.fns[np]?=some (("plus":Str),Fp))(et:J.fns[nt]?=some (("total":Str),Ft))(eg:J.cs[ng]?=some (("NOUGHT":Str),.tup [.int 0,.int 1]))(hp:zEM Fp)(ht:zLc Ft):RowF (dFun 2 5 (evSs J (rowB np nt ng))):=λfs gs w L B Q lf lg hw hL hLB hf hQ=>by
 (walk_at "d");unfold rowB;(walk_at "st");refine zAF ?_;(walk_at "e");refine zAF (zD5 (zCr eg ?_));(walk_at "e");refine zAF (zCI (zIM (zDT (zBR (zAH rfl (zEL (zBp (zTE ?_))))))));refine⟨_,rfl,by omega,?_⟩;rw[show ((fs.length:Int) - 1).toNat=w by omega];generalize hM:L*(B+1)=M at *;refine zCg (λxs G=>∃ (j:Nat) (o:Option (D×Bool)) (q:Rat) (qs:List Rat),G=[some (.lst fs,false),some (.lst gs,false),some (zCj qs,true),some (ratD q,false),o]/\xs=(rngL 0 w).drop j/\j<=w/\qs.length=j/\RB (1+j*(M+2)) q/\∀ q∈qs,RB ((w+1)*(M+2)+1) q) ?_ ?_ _ _ ⟨0,none,0,[],rfl,rfl,zero_le _,rfl,zBf.mono (by omega),by simp⟩
 .rintro x xs G ⟨j,o,q,qs,rfl,exs,hj,lq,rb,hq⟩;obtain⟨hlt,rfl,rfl⟩:=zQ1 exs.symm;obtain⟨d,md,ed⟩:=zFj (ds:=fs) (k:=j) (by omega) (by omega);obtain⟨e,me,ee⟩:=zFj (ds:=gs) (k:=(j:Int)+1) (by omega) (by omega);obtain⟨f,rfl,hf'⟩:=hf d (List.mem_append_left _ md);obtain⟨g,rfl,hg'⟩:=hf e (xj _ me);obtain⟨w1,w2,w3⟩:=zNZ hf';obtain⟨v1,v2,v3⟩:=zNZ hg';rw[hM] at w2 w3 v2 v3;have l1:=hf'.1;have l2:=hg'.1;have jb:(j+1)*(M+2)<=w*(M+2):=mul_le_mul_right _ hlt;have wb:w*(M+2)<=6*(M+2):=mul_le_mul_right _ hw;have rb2:=zCD rb w3;have rb3:=zCD rb2 v3;rw[Nat.succ_mul] at jb;refine⟨_,rfl,?_⟩;(walk_at "s");refine zAF ?_;(walk_at "e");refine zA3 ed ?_;(walk_at "e");refine ht f _ _ w1 (by omega) (by omega) ?_;(walk_at "e");refine zAF (zHw rfl (by rw[qy];omega) ?_);(walk_at "e");refine zA3 ee ?_;(walk_at "e");refine ht g _ _ v1 (by omega) (by omega) ?_;(walk_at "e");refine zBZ ⟨j+1,_,_,qs++[_],by unfold zCj;rw[x8];rfl,rfl,by omega,by simp[lq],rb2.mono (by rw[Nat.succ_mul];omega),λz m=>(mem_append.mp m).elim (hq z) λy=>mem_singleton.mp y▸rb3.mono (by rw[Nat.succ_mul];omega)⟩
 .rintro G ⟨j,o,q,qs,rfl,exs,hj,lq,rb,hq⟩;obtain rfl:=zOe exs hj;refine k_nx ?_;(walk_at "w");exact hQ _ lq hq
theorem zMF (qs:List Rat):noLs (qs.map ratD)=true:=by
 induction qs with
 | nil=>rfl
 | cons q qs ih=>rw[map_cons,noLs,ih];rfl
theorem zQf (ha:AllF Fa)(hf:zNV Ff)(hr:zLf Fr)(hw:RowF Fw)(fb:FlB n P w h rs)(hB:(w+1)*(rs.length*(P*(w+h+4))*(48*n+161)+2) < B)(hM:rs.length*(P*(w+h+4))*(48*n+161)<=4000000) :
  ∃ T:List (List Rat),(T.length=h/\∀ qs∈T,qs.length=w/\∀ q∈qs,RB B q)/\∃ zs,ZOk Fa Ff Fr Fw w h (zBk rs) zs λr=>(T.getD r []).map ratD:=by
 obtain⟨x,e1,ds,rfl,l1,p1⟩:=ha n P w h rs (λx=>∃ ds:List D,x=(.lst ds,.fr)/\ds.length<=rs.length*(P*(w+h+4))/\∀ d∈ds,isZ (8*n+20) w h d) fb λds l p=>⟨ds,rfl,l,p⟩
 have w2:=fb.w2;have h2:=fb.h2;have hn:=fb.b;have tb:rs.length*(P*(w+h+4))<=6*(12*16):=Nat.mul_le_mul fb.m (Nat.mul_le_mul fb.p (by omega));generalize rs.length*(P*(w+h+4))=M at *;obtain⟨zs,rfl,hz⟩:=zKl (f:=Pz.d) (P:=λz=>PzB w h z/\Ff [z.d]=some (z.f,.cl)/\Fr [z.d]=some (z.g,.cl)/\isR (48*n+160) z.f/\isR (48*n+160) z.g) (ds:=ds) λd m=>by
  obtain⟨c,r,p,q,rfl,c0,c1,r0,r1,pb,qb⟩:=p1 d m;obtain⟨_,e2,f,rfl,rf⟩:=hf c r p q _ (λx=>∃ f,x=(ratD f,.cl)/\RB (48*n+160) f) pb qb hn (by omega) λf rf=>⟨f,rfl,rf.mono (by omega)⟩
  obtain⟨_,e3,g,rfl,rg⟩:=hr c r p q _ (λx=>∃ f,x=(ratD f,.cl)/\RB (48*n+160) f) pb qb hn (by omega) λf rf=>⟨f,rfl,rf.mono (by omega)⟩
  exact⟨⟨c,r,ptD p,ptD q,ratD f,ratD g⟩,rfl,⟨r0,r1,c0,c1,rfl,rfl,rfl⟩,e2,e3,⟨f,rfl,rf⟩,g,rfl,rg⟩
 rw[qy] at l1;have fr:∀ (p:Pz->D),(∀ z∈zs,isR (48*n+160) (p z))->∀ r c,∃ f:List Rat,D.lst (fc p zs r c)=zCj f/\f.length<=M/\∀ q∈f,RB (48*n+160) q:=λp hp r c=>by
  obtain⟨f,e,b⟩:=zKl (f:=ratD) (P:=RB (48*n+160)) (ds:=fc p zs r c) λd m=>by
   obtain⟨z,mz,rfl⟩:=mem_map.mp m;exact hp z (mem_filter.mp mz).1
  refine⟨f,congrArg _ e,?_,b⟩;have:=congrArg List.length e;rw[qy] at this;have:=zOC (p:=p) zs r c;omega
 have row:∀ r,∃ qs:List Rat,Fw [.lst ((List.range (w+1)).map λc=>.lst (fc Pz.f zs r c)),.lst ((List.range (w+1)).map λc=>.lst (fc Pz.g zs r c))]=some (zCj qs,.fr)/\qs.length=w/\∀ q∈qs,RB B q:=λr=>by
  obtain⟨_,e,qs,rfl,q⟩:=hw ((List.range (w+1)).map λc=>.lst (fc Pz.f zs r c)) ((List.range (w+1)).map λc=>.lst (fc Pz.g zs r c)) w M (48*n+160) (λx=>∃ qs:List Rat,x=(zCj qs,.fr)/\qs.length=w/\∀ q∈qs,RB B q) (by simp) (by simp) w2 (by omega) hM (λd m=>by
   rcases mem_append.mp m with m | m<;>(obtain⟨c,_,rfl⟩:=mem_map.mp m)
   .exact fr Pz.f (λz m=>(hz z m).2.2.2.1) r c
   .exact fr Pz.g (λz m=>(hz z m).2.2.2.2) r c) λqs l b=>⟨qs,rfl,l,λq m=>(b q m).mono hB⟩
  exact⟨qs,e,q⟩
 refine⟨(List.range h).map λr=>(row r).choose,⟨by simp,λqs m=>?_⟩,zs,⟨w2,h2,by omega,e1,λz m=>(hz z m).1,λz m=>(hz z m).2.1,λz m=>(hz z m).2.2.1,λr hr=>?_,λr hr=>zMF _⟩⟩
 .obtain ⟨r,_,rfl⟩:=mem_map.mp m;exact(row r).choose_spec.2
 .rw [getD_eq_getElem?_getD,getElem?_map,getElem?_range hr];exact(row r).choose_spec.1
end DL
end
section
namespace DL
open PySem Spec PyProof.Rows L2
section
variable {J:Gm}{U:Dm}{s:Mst}
theorem zPE (h:EvP (evM J U a s) λx=>∃ c ns l w,x.1=.obj c ns l/\(c,fl,none)∈J.ob/\(ns.zip l).lookup fl=some w/\Q (w,x.2)):EvP (evM J U (.fld a fl) s) Q:=by
 obtain⟨⟨x,m⟩,e,c,ns,l,w,rfl,h1,h2,q⟩:=h;refine⟨_,?_,q⟩;show fldM J.ob fl _ s=_;unfold fldM;rw[e,qx]
 simp_all
theorem zKu (h:EvP (evE J a G) λx=>∃ c ns l d,x.1=.obj c ns l/\(c,fl,none)∈J.ob/\(ns.zip l).lookup fl=some d/\Q (d,.cl)):EvP (evE J (.fld a fl) G) Q:=by
 obtain⟨⟨x,k⟩,e,c,ns,l,d,rfl,h1,h2,q⟩:=h;refine⟨_,?_,q⟩;show one _ _ G=_;unfold one;rw[e];show (if _∈J.ob then _ else _)=_
 simp_all
theorem zRm (h:EvP (evM J U a s) λx=>∃ c n y F,clsW m x.1=some c/\ix.lookup c=some n/\U[n]?=some (y,F)/\spec.lookup y=some (.mth c m)/\EvP (evMs J U es ⟨s.G,x.2⟩) λws=>EvP (F (x.1::ws.1) ws.2) Q):EvP (evM J U (.mth ix m a es) s) Q:=by
 obtain⟨x,e1,c,n,y,F,e2,e3,e4,e5,ws,e6,r,e7,q⟩:=h;refine⟨r,?_,q⟩;show mthM U ix m _ _ s=_;unfold mthM
 simp_all
theorem m_mk (e1:U[n]?=some (y,F))(e2:spec.lookup y=some (.mk c kw))(h:EvP (evMs J U es s) λws=>EvP (F (ws.1++zO0 d) ws.2) Q):EvP (evM J U (.mk n c kw d es) s) Q:=by
 obtain⟨ws,e3,r,e4,q⟩:=h;refine⟨r,?_,q⟩;show mkM U n c kw d _ s=_;unfold mkM
 simp_all
theorem zRl (h:EvP (evM J U a s) λx=>EvP (evM J U b ⟨s.G,x.2⟩) λy=>∃ n i ws,x.1=.loc n/\y.1=.dat (.int i)/\y.2[n]?=some ws/\Q (.loc y.2.length,y.2++[cutW ws (if u then none else some i) (if u then some i else none)])):EvP (evM J U (.slc u a b) s) Q:=by
 obtain⟨x,ex,y,ey,n,i,ws,e1,e2,e3,q⟩:=h;refine⟨_,?_,q⟩;show slcM u (evM J U a) (evM J U b) s=_;unfold slcM;rw[ex];show (evM J U b _).bind _=_;rw[ey];obtain⟨x1,x2⟩:=x;obtain⟨y1,y2⟩:=y;subst e1 e2;show (y2[n]?).bind _=_;rw[e3]
 rfl
theorem zRn (h:EvP (evM J U a s) λx=>∃ n ws,x.1=.loc n/\x.2[n]?=some ws/\Q (.loc x.2.length,x.2++[ws])):EvP (evM J U (.lcp a) s) Q:=by
 obtain⟨⟨x,m⟩,e1,n,ws,rfl,e2,q⟩:=h;refine⟨_,?_,q⟩;show lcpM _ s=_;unfold lcpM;rw[e1,qx]
 simp_all
theorem zG2 {c:Str}{n:Nat}{L:List (Str×(Mst->Option MR))}{ws:List W}{O:Mem}{Q:MR->Prop}(h1:ws.length=n)(hm:mutK (L.map (·.1))=false)(h:EvP (zD0 L ⟨none::ws.map some,O⟩) λz=>Q (.obj c (L.map (·.1)) z.1,z.2)):EvP (zGD c n L ws O) Q:=by
 obtain⟨z,e,q⟩:=h;exact⟨_,by unfold zGD;rw[if_pos h1,e];unfold mkR;rw[hm];rfl,q⟩
theorem zCo (h:EvP (g s) λw=>EvP (zD0 r ⟨s.G,w.2⟩) λz=>Q (w.1::z.1,z.2)):EvP (zD0 ((x,g)::r) s) Q:=by
 obtain⟨w,e1,z,e2,q⟩:=h;exact⟨_,by unfold zD0;dsimp only;rw[e1,qx,e2];rfl,q⟩
theorem zKK (h:Q ([],s.O)):EvP (zD0 [] s) Q:=⟨_,rfl,h⟩
end
end DL
end
section
namespace DL
open PySem L2
end DL
end
open PySem L2 DL
local macro_rules | `(tactic| walk_at "mw")=>`(tactic| first
 | (with_reducible first | refine zAc ?_ | refine zEO ?_ | refine zEQ ?_ | refine zGb ?_ | refine zCx ?_ | refine zHU ?_ | refine zQv ?_ | refine zNd ?_ | refine zFD ?_ | refine zBm rfl ?_ | refine zTT rfl ?_ | refine zAS ?_) | ((with_reducible refine zBY ?_);try dsimp only) | with_reducible refine⟨_,_,zA4,zA4,?_⟩ | (with_reducible first | refine zPD ?_ | refine m_ix ?_ | refine zTl ?_ | refine zRi ?_ | refine zC9 ?_ | refine zRm ?_ | refine zDA ?_) | ((with_reducible show EvP (evM _ _ (ME.mk _ _ _ _ _) _) _);refine m_mk rfl (by decide +kernel) ?_)
 | ((with_reducible refine zCY ?_);try (walk_at "s")) | with_reducible refine zGy ?_
 | ((with_reducible show EvP (evM _ _ (ME.var _) _) _);refine zAW rfl ?_)
 | ((with_reducible show EvP (evE _ (E.var _) (drS _ _)) _);first | refine zAH (zAp rfl zA4) ?_ | refine zAH (zAp rfl (by assumption)) ?_)
 | ((with_reducible show EvP (evM _ _ (ME.call _ _ _) _) _);refine zCd rfl ?_)
 | ((with_reducible show EvP (zC5 (_,Kd.cl) _) _);refine zCK rfl ?_)
 | ((with_reducible show EvP (zC5 (D.lst _,Kd.fr) _) _);refine zIs rfl ?_)
 | with_reducible refine zEG (by first | decide | omega) ?_ | with_reducible refine zEH (zHI (by decide) (by decide)) ?_ | with_reducible refine zBD (zF3 (by decide)) ?_ | with_reducible refine zBD (zEe (by decide)) ?_
 | walk_at "ev")
section
namespace DL
open PySem L2
end DL
end
open PySem L2 DL
local macro_rules | `(tactic| walk_at "f")=>`(tactic| exact ⟨rfl,rfl,rfl,by decide +kernel,rfl,by decide +kernel,by decide +kernel⟩)
section
namespace Q
open PySem L2 DL
noncomputable def top (i:Nat):Stmt:=PySem.Challenge.pw_coverfill_k35_whole_group_of_fills.main.body.getD i (.Pass ⟨0,0,0,0⟩)
noncomputable def bs:List Str:=["abs","len","range","list","tuple","zip","reversed","max","isinstance","bool","int"]
noncomputable def b0:S:=zO9
noncomputable def b1:S:=.cons (.ife (.cmp .Eq (.var 1) (.int 0)) (.cons (.rse "NoRatio" (.str "the bottom of a ratio is not 0")) .nil) .nil) (.cons (.set 2 (.call 0 "common_measure" (.cons (.abs (.var 0)) (.cons (.abs (.var 1)) .nil)))) (.cons (.ife (.cmp .Lt (.var 1) (.int 0)) (.cons (.set 2 (.neg (.var 2))) .nil) .nil) (.cons (.ret (.tup (.cons (.bin .FloorDiv (.var 0) (.var 2)) (.cons (.bin .FloorDiv (.var 1) (.var 2)) .nil)))) .nil)))
noncomputable def b2:S:=zIR "ratio" 1
noncomputable def b3:S:=zJ8 "ratio" 1
noncomputable def b4:S:=zI3 "ratio" 1
noncomputable def b5:S:=zGq "ratio" 1
noncomputable def b6:S:=zO4 2
noncomputable def b7:S:=zI2 6 0
noncomputable def b8:S:=zIz
noncomputable def b9:S:=.cons (.ife (.call 8 "under" (.cons (.var 0) (.cons (.var 1) .nil))) (.cons (.ret (.var 1)) .nil) .nil) (.cons (.ife (.call 8 "under" (.cons (.var 2) (.cons (.var 0) .nil))) (.cons (.ret (.var 2)) .nil) .nil) (.cons (.ret (.var 0)) .nil))
noncomputable def b10:S:=wpB
noncomputable def b11:S:=.cons (.ret (.call 9 "between" (.cons (.var 0) (.cons (.glob 0 "NOUGHT") (.cons (.glob 2 "ONE") .nil))))) .nil
noncomputable def b12:S:=zLQ 2 0
noncomputable def b13:S:=zQ2 3 2
noncomputable def b14:S:=zO6 4
noncomputable def b15:S:=zOc 14 2
noncomputable def b16:S:=inkB 13 14
noncomputable def b17:S:=zPM 4 15
noncomputable def b18:S:=mixB 2 13 4 14
noncomputable def b19:S:=zLY 14 13
noncomputable def b20:S:=zJH
noncomputable def N21:List Str:=["start","end","last"]
noncomputable def P21:List Str:=["start","end","last"]
noncomputable def b21:S:=zOz 8 21
theorem sc21:zAX N21 P21 (zAA (top 32)):=by (walk_at "f")
theorem ck21:cSs (zAA (top 32)) N21 bs b21 (zAE (top 32))=true:=by decide +kernel
noncomputable def b22:S:=zJR 5 3 2 4
noncomputable def b23:S:=.cons (.set 2 (.ix (.var 0) (.int 0))) (.cons (.set 3 (.ix (.var 0) (.int 1))) (.cons (.set 4 (.call 21 "numbers_between" (.cons (.ix (.var 2) (.int 0)) (.cons (.ix (.var 3) (.int 0)) (.cons (.var 1) .nil))))) (.frz 4 (.cons (.set 5 (.call 22 "rests_at" (.cons (.var 4) (.cons (.ix (.var 2) (.int 0)) (.cons (.ix (.var 3) (.int 0)) (.cons (.ix (.var 2) (.int 1)) (.cons (.ix (.var 3) (.int 1)) .nil))))))) (.frz 4 (.frz 5 (.cons (.ret (.comp1 6 [] "k" (.r1 (.len (.var 4))) .nil (.tup (.cons (.tup (.cons (.ix (.var 4) (.var 6)) (.cons (.int 1) .nil))) (.cons (.ix (.var 5) (.var 6)) .nil))))) .nil)))))))
noncomputable def b24:S:=.cons (.set 2 (.ix (.var 0) (.int 0))) (.cons (.set 3 (.ix (.var 0) (.int 1))) (.cons (.set 4 (.call 21 "numbers_between" (.cons (.ix (.var 2) (.int 1)) (.cons (.ix (.var 3) (.int 1)) (.cons (.var 1) .nil))))) (.frz 4 (.cons (.set 5 (.call 22 "rests_at" (.cons (.var 4) (.cons (.ix (.var 2) (.int 1)) (.cons (.ix (.var 3) (.int 1)) (.cons (.ix (.var 2) (.int 0)) (.cons (.ix (.var 3) (.int 0)) .nil))))))) (.frz 4 (.frz 5 (.cons (.ret (.comp1 6 [] "k" (.r1 (.len (.var 4))) .nil (.tup (.cons (.ix (.var 5) (.var 6)) (.cons (.tup (.cons (.ix (.var 4) (.var 6)) (.cons (.int 1) .nil))) .nil))))) .nil)))))))
noncomputable def b25:S:=zLZ 8
noncomputable def b26:S:=.cons (.set 3 (.lst .nil)) (.cons (.set 4 (.int 0)) (.cons (.for1 5 (.it (.var 0)) (.cons (.whl (.andl (.cons (.cmp .Lt (.var 4) (.len (.var 1))) (.cons (.call 25 "comes_ahead" (.cons (.ix (.var 1) (.var 4)) (.cons (.var 5) (.cons (.var 2) .nil)))) .nil))) (.cons (.app 3 (.ix (.var 1) (.var 4))) (.cons (.aug .Add 4 (.int 1)) .nil))) (.cons (.ife (.andl (.cons (.cmp .Lt (.var 4) (.len (.var 1))) (.cons (.cmp .Eq (.ix (.var 1) (.var 4)) (.var 5)) .nil))) (.cons (.aug .Add 4 (.int 1)) .nil) .nil) (.cons (.app 3 (.var 5)) .nil)))) (.cons (.ret (.bin .Add (.var 3) (.sl (.var 1) (.cons (.var 4) .nil) .nil))) .nil)))
noncomputable def b27:S:=zJC 26 23 24 8
noncomputable def b28:S:=midB 4 2 1
noncomputable def b29:S:=pcB 10 28
noncomputable def b30:S:=onB
noncomputable def b31:S:=zGo 27 29 30
noncomputable def b32:S:=zP3 3
noncomputable def b33:S:=zJQ 0 4 32 3 28
noncomputable def mb34:MT:=zK7
noncomputable def b34:S:=.cons (.ret (.comp1 1 [] "k" (.r1 (.var 0)) .nil (.lst .nil))) .nil
noncomputable def b35:S:=allB 20 31
noncomputable def b36:S:=rowB 2 7 0
noncomputable def mb37:MT:=zGe 35 32 33 36 2
noncomputable def mb38:MT:=.cons (.ret (.comp 1 [] "ring" (.it (.var 0)) (.pur (.list (.var 1))))) .nil
noncomputable def b39:S:=.cons (.ret (.ite (.cmp .Is (.var 0) .non) (.glob 2 "ONE") (.var 0))) .nil
noncomputable def mb40:MT:=.cons (.ret (.comp 2 [] "row" (.it (.var 0)) (.comp 3 [] "one" (.it (.var 2)) (.pur (.callv 1 (.var 3)))))) .nil
noncomputable def mb41:MT:=.cons (.set 3 (.lst .nil)) (.cons (.for1 4 (.rng (.pur (.len (.var 0)))) (.cons (.app (.var 3) (.comp 5 [] "column" (.rng (.pur (.len (.ix (.var 0) (.var 4))))) (.pur (.callw 2 (.cons (.ix (.ix (.var 0) (.var 4)) (.var 5)) (.cons (.ix (.ix (.var 1) (.var 4)) (.var 5)) .nil)))))) .nil)) (.cons (.ret (.var 3)) .nil))
noncomputable def mb42:MT:=.cons (.ret (.call 5 "each_changed" (.cons (.call 3 "shares" (.cons (.var 0) (.cons (.var 1) (.cons (.var 2) .nil)))) (.cons (.pur (.glob 3 "cover")) .nil)))) .nil
noncomputable def N43:List Str:=["width","height","shape","strength"]
noncomputable def P43:List Str:=["width","height","shape","strength"]
theorem sc43:zAX N43 P43 (zAA (top 56)):=by (walk_at "f")
noncomputable def mb44:MT:=.cons (.ret (.comp 2 [] "row" (.rng (.var 1)) (.comp 3 [] "column" (.rng (.var 0)) (.pur (.call 12 "clear_film" .nil))))) .nil
noncomputable def mb45:MT:=.cons (.set 3 (.call 9 "clear_films" (.cons (.var 0) (.cons (.var 1) .nil)))) (.cons (.for1 4 (.it (.var 2)) (.cons (.set 3 (.call 6 "put_together" (.cons (.mth [("Fill",13)] "films" (.var 4) (.cons (.var 0) (.cons (.var 1) .nil))) (.cons (.var 3) (.cons (.pur (.glob 4 "joined")) .nil))))) .nil)) (.cons (.ret (.var 3)) .nil))
noncomputable def zRf:MT:=.cons (.set 3 (.call 9 "clear_films" (.cons (.var 0) (.cons (.var 1) .nil)))) (.cons (.for1 4 (.it (.var 2)) (.cons (.set 3 (.call 6 "put_together" (.cons (.mth [("Fill",13),("Join",15),("Group",16)] "films" (.var 4) (.cons (.var 0) (.cons (.var 1) .nil))) (.cons (.var 3) (.cons (.pur (.glob 4 "joined")) .nil))))) .nil)) (.cons (.ret (.var 3)) .nil))
noncomputable def b46:S:=zQS
noncomputable def b47:S:=zIv
noncomputable def b48:S:=.cons (.set 2 (.call 46 "_law_cell" (.cons (.var 0) (.cons (.var 1) .nil)))) (.cons (.ife (.orl (.cons (.cmp .GtE (.var 2) (.bin .Pow (.int 10) (.int 18))) (.cons (.cmp .LtE (.var 2) (.neg (.bin .Pow (.int 10) (.int 18)))) .nil))) (.frz 2 (.cons (.ret (.lst (.cons (.var 2) (.cons (.int 0) .nil)))) .nil)) .nil) (.cons (.ret (.lst (.cons (.bin .Mod (.var 2) (.int 2147483647)) (.cons (.bin .Add (.var 1) (.int 1)) .nil)))) .nil))
noncomputable def mb49:MT:=.cons (.ife (.pur (.cmp .Eq (.ix (.var 0) (.int 1)) (.int 0))) (.cons (.set 2 (.pur (.bin .Mod (.ix (.var 0) (.int 0)) (.var 1)))) (.cons (.put (.var 0) (.pur (.int 0)) (.pur (.bin .FloorDiv (.ix (.var 0) (.int 0)) (.var 1)))) (.cons (.ret (.var 2)) .nil))) .nil) (.cons (.put (.var 0) (.pur (.int 0)) (.pur (.bin .Mod (.bin .Add (.bin .Add (.bin .Mult (.ix (.var 0) (.int 0)) (.int 48271)) (.bin .Mult (.bin .Mult (.int 7919) (.ix (.var 0) (.int 1))) (.ix (.var 0) (.int 1)))) (.int 17)) (.int 2147483647)))) (.cons (.put (.var 0) (.pur (.int 1)) (.pur (.bin .Add (.ix (.var 0) (.int 1)) (.int 1)))) (.cons (.ret (.pur (.bin .Mod (.bin .Mod (.bin .Mult (.ix (.var 0) (.int 0)) (.int 69621)) (.int 2147483629)) (.var 1)))) .nil)))
noncomputable def b50:S:=lowB
noncomputable def b51:S:=zIR "_law_low" 50
noncomputable def b52:S:=zKg 47
noncomputable def mb53:MT:=.cons (.set 1 (.bin .Add (.pur (.int 1)) (.call 20 "_law_take" (.cons (.var 0) (.cons (.pur (.int 6)) .nil))))) (.cons (.set 2 (.call 20 "_law_take" (.cons (.var 0) (.cons (.pur (.int 7)) .nil)))) (.cons (.ife (.pur (.cmp .Eq (.var 2) (.int 0))) (.cons (.ret (.pur (.tup (.cons (.int 0) (.cons (.int 1) .nil))))) .nil) .nil) (.cons (.ife (.pur (.cmp .Eq (.var 2) (.int 1))) (.cons (.ret (.pur (.tup (.cons (.int 1) (.cons (.int 1) .nil))))) .nil) .nil) (.cons (.ret (.call 0 "_law_low" (.cons (.call 20 "_law_take" (.cons (.var 0) (.cons (.pur (.bin .Add (.var 1) (.int 1))) .nil))) (.cons (.var 1) .nil)))) .nil))))
noncomputable def mb54:MT:=.cons (.set 1 (.lst (.cons (.call 20 "_law_take" (.cons (.var 0) (.cons (.pur (.int 256)) .nil))) (.cons (.call 20 "_law_take" (.cons (.var 0) (.cons (.pur (.int 256)) .nil))) .nil)))) (.cons (.ret (.tupd (.cons (.ix (.var 1) (.pur (.int 0))) (.cons (.ix (.var 1) (.pur (.int 1))) (.cons (.ix (.lst (.cons (.pur (.int 255)) (.cons (.pur (.int 0)) (.cons (.call 20 "_law_take" (.cons (.var 0) (.cons (.pur (.int 256)) .nil))) .nil)))) (.call 20 "_law_take" (.cons (.var 0) (.cons (.pur (.int 3)) .nil)))) .nil))))) .nil)
noncomputable def mb55:MT:=.cons (.set 2 (.ix (.pur (.lst (.cons (.int 1) (.cons (.int 2) (.cons (.int 4) (.cons (.int 3) .nil)))))) (.call 20 "_law_take" (.cons (.var 0) (.cons (.pur (.int 4)) .nil))))) (.cons (.ret (.call 0 "_law_low" (.cons (.bin .Sub (.call 20 "_law_take" (.cons (.var 0) (.cons (.pur (.bin .Add (.bin .Mult (.var 2) (.bin .Add (.var 1) (.int 2))) (.int 1))) .nil))) (.var 2)) (.cons (.var 2) .nil)))) .nil)
noncomputable def mb56:MT:=.cons (.set 3 (.bin .Sub (.call 20 "_law_take" (.cons (.var 0) (.cons (.pur (.bin .Add (.var 1) (.int 1))) .nil))) (.pur (.int 1)))) (.cons (.set 4 (.bin .Sub (.call 20 "_law_take" (.cons (.var 0) (.cons (.pur (.bin .Add (.var 2) (.int 1))) .nil))) (.pur (.int 1)))) (.cons (.set 5 (.bin .Add (.pur (.bin .Add (.var 3) (.int 1))) (.call 20 "_law_take" (.cons (.var 0) (.cons (.pur (.bin .Add (.var 1) (.int 1))) .nil))))) (.cons (.set 6 (.bin .Add (.pur (.bin .Add (.var 4) (.int 1))) (.call 20 "_law_take" (.cons (.var 0) (.cons (.pur (.bin .Add (.var 2) (.int 1))) .nil))))) (.cons (.ret (.lst (.cons (.pur (.tup (.cons (.tup (.cons (.var 3) (.cons (.int 1) .nil))) (.cons (.tup (.cons (.var 4) (.cons (.int 1) .nil))) .nil)))) (.cons (.pur (.tup (.cons (.tup (.cons (.var 5) (.cons (.int 1) .nil))) (.cons (.tup (.cons (.var 4) (.cons (.int 1) .nil))) .nil)))) (.cons (.pur (.tup (.cons (.tup (.cons (.var 5) (.cons (.int 1) .nil))) (.cons (.tup (.cons (.var 6) (.cons (.int 1) .nil))) .nil)))) (.cons (.pur (.tup (.cons (.tup (.cons (.var 3) (.cons (.int 1) .nil))) (.cons (.tup (.cons (.var 6) (.cons (.int 1) .nil))) .nil)))) .nil)))))) .nil))))
noncomputable def mb57:MT:=.cons (.set 3 (.call 20 "_law_take" (.cons (.var 0) (.cons (.pur (.int 8)) .nil)))) (.cons (.ife (.pur (.cmp .Eq (.var 3) (.int 4))) (.cons (.ret (.lst .nil)) .nil) .nil) (.cons (.ife (.pur (.cmp .Lt (.var 3) (.int 3))) (.cons (.ret (.lst (.cons (.call 24 "_law_box" (.cons (.var 0) (.cons (.var 1) (.cons (.var 2) .nil)))) .nil))) .nil) .nil) (.cons (.set 4 (.lst .nil)) (.cons (.for1 5 (.rng (.bin .Add (.pur (.int 3)) (.call 20 "_law_take" (.cons (.var 0) (.cons (.pur (.int 2)) .nil))))) (.cons (.set 6 (.call 23 "_law_at" (.cons (.var 0) (.cons (.var 1) .nil)))) (.cons (.app (.var 4) (.tupd (.cons (.var 6) (.cons (.call 23 "_law_at" (.cons (.var 0) (.cons (.var 2) .nil))) .nil)))) .nil))) (.cons (.ret (.lst (.cons (.var 4) .nil))) .nil)))))
noncomputable def b58:S:=.cons (.ife (.orl (.cons (.not (.isi .list (.var 0))) (.cons (.cmp .NotEq (.len (.var 0)) (.len (.var 1))) .nil))) (.cons (.ret (.bl false)) .nil) .nil) (.cons (.for1 2 (.r1 (.len (.var 1))) (.cons (.ife (.orl (.cons (.not (.isi .list (.ix (.var 0) (.var 2)))) (.cons (.cmp .NotEq (.len (.ix (.var 0) (.var 2))) (.len (.ix (.var 1) (.var 2)))) .nil))) (.cons (.ret (.bl false)) .nil) .nil) (.cons (.for1 3 (.r1 (.len (.ix (.var 1) (.var 2)))) (.cons (.ife (.not (.call 52 "_law_like" (.cons (.ix (.ix (.var 0) (.var 2)) (.var 3)) (.cons (.ix (.ix (.var 1) (.var 2)) (.var 3)) .nil)))) (.cons (.ret (.bl false)) .nil) .nil) .nil)) .nil))) (.cons (.ret (.bl true)) .nil))
noncomputable def b59:S:=.cons (.for1 1 (.it (.var 0)) (.cons (.for1 2 (.it (.var 1)) (.cons (.ife (.cmp .NotEq (.call 51 "_law_plus" (.cons (.ix (.var 2) (.int 0)) (.cons (.ix (.var 2) (.int 1)) .nil))) (.tup (.cons (.int 1) (.cons (.int 1) .nil)))) (.cons (.ret (.bl false)) .nil) .nil) .nil)) .nil)) (.cons (.ret (.bl true)) .nil)
noncomputable def N60:List Str:=["_law_script","_law_width","_law_height","_law_head","_law_many","_law_fills","_law_k","_law_bag_here","_law_t","_law_ink_here","_law_at_here","_law_due","_law_others","_law_layer"]
noncomputable def P60:List Str:=["_law_script"]
noncomputable def mb60:MT:=.cons (.set 1 (.pur (.bin .Add (.int 1) (.bin .Mod (.call 46 "_law_cell" (.cons (.var 0) (.cons (.int 0) .nil))) (.int 3))))) (.cons (.set 2 (.pur (.bin .Add (.int 1) (.bin .Mod (.call 46 "_law_cell" (.cons (.var 0) (.cons (.int 1) .nil))) (.int 2))))) (.cons (.set 3 (.pur (.call 48 "_law_bag" (.cons (.var 0) (.cons (.int 2) .nil))))) (.cons (.set 4 (.call 20 "_law_take" (.cons (.var 3) (.cons (.pur (.int 5)) .nil)))) (.cons (.set 5 (.lst .nil)) (.cons (.for1 6 (.rng (.var 4)) (.cons (.set 7 (.pur (.call 48 "_law_bag" (.cons (.var 0) (.cons (.bin .Add (.int 3) (.var 6)) .nil))))) (.cons (.set 8 (.call 21 "_law_part" (.cons (.var 7) .nil))) (.cons (.set 9 (.call 22 "_law_ink" (.cons (.var 7) .nil))) (.cons (.app (.var 5) (.mk 10 "Fill" "strength" false (.cons (.call 25 "_law_shape" (.cons (.var 7) (.cons (.var 1) (.cons (.var 2) .nil)))) (.cons (.var 9) (.cons (.var 8) .nil))))) .nil))))) (.cons (.set 10 (.call 20 "_law_take" (.cons (.var 3) (.cons (.pur (.bin .Add (.var 4) (.int 1))) .nil)))) (.cons (.set 11 (.mth [("Fill",13),("Join",18),("Group",19)] "films" (.mk 11 "Join" "strength" true (.cons (.var 5) .nil)) (.cons (.var 1) (.cons (.var 2) .nil)))) (.cons (.ife (.pur (.orl (.cons (.not (.call 58 "_law_rows_good" (.cons (.var 11) (.cons (.comp1 14 [] "_law_row" (.it (.var 11)) .nil (.list (.var 14))) .nil)))) (.cons (.not (.call 59 "_law_closed" (.cons (.var 11) .nil))) .nil)))) (.cons (.ret (.pur (.bl false))) .nil) .nil) (.cons (.set 12 (.lst (.cons (.mk 12 "Group" "strength" true (.cons (.var 5) .nil)) (.cons (.mk 11 "Join" "strength" true (.cons (.lst (.cons (.mk 12 "Group" "strength" true (.cons (.slc true (.var 5) (.var 10)) .nil)) (.cons (.mk 11 "Join" "strength" true (.cons (.slc false (.var 5) (.var 10)) .nil)) .nil))) .nil)) .nil)))) (.cons (.app (.var 12) (.mk 12 "Group" "strength" true (.cons (.lst (.cons (.mk 11 "Join" "strength" true (.cons (.slc true (.var 5) (.var 10)) .nil)) (.cons (.mk 12 "Group" "strength" true (.cons (.slc false (.var 5) (.var 10)) .nil)) .nil))) .nil))) (.cons (.for1 13 (.it (.var 12)) (.cons (.ife (.not (.call 1 "_law_rows_good" (.cons (.mth [("Fill",13),("Join",18),("Group",19)] "films" (.var 13) (.cons (.var 1) (.cons (.var 2) .nil))) (.cons (.var 11) .nil)))) (.cons (.ret (.pur (.bl false))) .nil) .nil) .nil)) (.cons (.set 8 (.call 21 "_law_part" (.cons (.var 3) .nil))) (.cons (.ret (.call 1 "_law_rows_good" (.cons (.mth [("Fill",13),("Join",18),("Group",19)] "films" (.mk 12 "Group" "strength" false (.cons (.var 5) (.cons (.var 8) .nil))) (.cons (.var 1) (.cons (.var 2) .nil))) (.cons (.mth [("Fill",13),("Join",18),("Group",19)] "films" (.mk 11 "Join" "strength" false (.cons (.var 5) (.cons (.var 8) .nil))) (.cons (.var 1) (.cons (.var 2) .nil))) .nil)))) .nil)))))))))))))
theorem zTj:cSs' (zAA (top 80)) N60 bs mb60 (zAE (top 80))=true:=by decide +kernel
theorem sc60:zAX N60 P60 (zAA (top 80)):=by (walk_at "f")
noncomputable def zGX:List Str:=["self","shape","ink","strength"]
noncomputable def zCN:List Str:=["self","shape","ink","strength"]
theorem zIP:zAX zGX zCN (zAA (zAC (top 60) 0)):=by (walk_at "f")
noncomputable def zDI:List (Str×ME):=[("shape",(.call 4 "own_shape" (.cons (.var 1) .nil))),("ink",(.var 2)),("strength",(.pur (.call 39 "strength_or_one" (.cons (.var 3) .nil))))]
theorem zG4:zHN (zAA (zAC (top 60) 0)) zGX bs "self" zDI (zAE (zAC (top 60) 0))=true:=by decide +kernel
noncomputable def zGW:List Str:=["self","layers","strength"]
noncomputable def zCM:List Str:=["self","layers","strength"]
theorem zIO:zAX zGW zCM (zAA (zAC (top 61) 0)):=by (walk_at "f")
noncomputable def zDH:List (Str×ME):=[("layers",(.lcp (.var 1))),("strength",(.pur (.call 39 "strength_or_one" (.cons (.var 2) .nil))))]
theorem zG3:zHN (zAA (zAC (top 61) 0)) zGW bs "self" zDH (zAE (zAC (top 61) 0))=true:=by decide +kernel
noncomputable def zE1:List Str:=["self","layers","strength"]
noncomputable def zBq:List Str:=["self","layers","strength"]
theorem zGf:zAX zE1 zBq (zAA (zAC (top 62) 0)):=by (walk_at "f")
noncomputable def zCn:List (Str×ME):=[("layers",(.lcp (.var 1))),("strength",(.pur (.call 39 "strength_or_one" (.cons (.var 2) .nil))))]
theorem zGE:zHN (zAA (zAC (top 62) 0)) zE1 bs "self" zCn (zAE (zAC (top 62) 0))=true:=by decide +kernel
noncomputable def zA2:List Str:=["self","width","height","thinned"]
noncomputable def zCO:List Str:=["self","width","height"]
theorem zFF:zAX zA2 zCO (zAA (zAC (top 60) 1)):=by (walk_at "f")
noncomputable def zAk:List Str:=["self","width","height"]
noncomputable def zBd:List Str:=["self","width","height"]
theorem zCy:zAX zAk zBd (zAA (zAC (top 61) 1)):=by (walk_at "f")
noncomputable def zAd:List Str:=["self","width","height"]
noncomputable def zBM:List Str:=["self","width","height"]
theorem zCb:zAX zAd zBM (zAA (zAC (top 62) 1)):=by (walk_at "f")
noncomputable def mp0:MT:=.nil
noncomputable def me0:ME:=(.call 7 "covers" (.cons (.var 0) (.cons (.var 1) (.cons (.var 2) .nil))))
theorem pck0:cPre (zAA (top 56)) N43 bs mp0 (zAE (top 56)).dropLast=true:=by decide +kernel
theorem eck0:cM me0 (zAA (top 56)) N43 bs (zCf (top 56))=true:=by decide +kernel
noncomputable def mp1:MT:=(.cons (.set 3 (.call 8 "thinned_covers" (.cons (.var 1) (.cons (.var 2) (.cons (.fld (.var 0) "shape") (.cons (.fld (.var 0) "strength") .nil)))))) .nil)
noncomputable def me1:ME:=(.var 3)
theorem pck1:cPre (zAA (zAC (top 60) 1)) zA2 bs mp1 (zAE (zAC (top 60) 1)).dropLast=true:=by decide +kernel
theorem eck1:cM me1 (zAA (zAC (top 60) 1)) zA2 bs (zCf (zAC (top 60) 1))=true:=by decide +kernel
noncomputable def mp2:MT:=.nil
noncomputable def me2:ME:=(.call 14 "joined_films" (.cons (.var 1) (.cons (.var 2) (.cons (.fld (.var 0) "layers") .nil))))
theorem pck2:cPre (zAA (zAC (top 61) 1)) zAk bs mp2 (zAE (zAC (top 61) 1)).dropLast=true:=by decide +kernel
theorem eck2:cM me2 (zAA (zAC (top 61) 1)) zAk bs (zCf (zAC (top 61) 1))=true:=by decide +kernel
noncomputable def zRe:ME:=(.call 17 "joined_films" (.cons (.var 1) (.cons (.var 2) (.cons (.fld (.var 0) "layers") .nil))))
theorem zS2:cM zRe (zAA (zAC (top 61) 1)) zAk bs (zCf (zAC (top 61) 1))=true:=by decide +kernel
noncomputable def mp3:MT:=.nil
noncomputable def me3:ME:=(.call 14 "joined_films" (.cons (.var 1) (.cons (.var 2) (.cons (.fld (.var 0) "layers") .nil))))
theorem pck3:cPre (zAA (zAC (top 62) 1)) zAd bs mp3 (zAE (zAC (top 62) 1)).dropLast=true:=by decide +kernel
theorem eck3:cM me3 (zAA (zAC (top 62) 1)) zAd bs (zCf (zAC (top 62) 1))=true:=by decide +kernel
noncomputable def zRd:ME:=(.call 17 "joined_films" (.cons (.var 1) (.cons (.var 2) (.cons (.fld (.var 0) "layers") .nil))))
theorem zS1:cM zRd (zAA (zAC (top 62) 1)) zAd bs (zCf (zAC (top 62) 1))=true:=by decide +kernel
noncomputable def G0:Gm:=⟨[],[("NOUGHT",.tup [.int 0,.int 1]),("HALF",.tup [.int 1,.int 2]),("ONE",.tup [.int 1,.int 1]),("cover",.fn 11 "cover"),("joined",.fn 17 "joined")],[],[],[],[],[("Fill","shape",none),("Fill","ink",none),("Fill","strength",none),("Join","layers",none),("Join","strength",none),("Group","layers",none),("Group","strength",none)]⟩
def F0:List D->Option R:=dFun 2 3 (evSs G0 b0)
def G1:Gm:=G0.add "common_measure" F0
def F1:List D->Option R:=dFun 2 3 (evSs G1 b1)
def G2:Gm:=G1.add "ratio" F1
def F2:List D->Option R:=dFun 2 2 (evSs G2 b2)
def G3:Gm:=G2.add "plus" F2
def F3:List D->Option R:=dFun 2 2 (evSs G3 b3)
def G4:Gm:=G3.add "minus" F3
def F4:List D->Option R:=dFun 2 2 (evSs G4 b4)
def G5:Gm:=G4.add "times" F4
def F5:List D->Option R:=dFun 2 2 (evSs G5 b5)
def G6:Gm:=G5.add "parted" F5
def F6:List D->Option R:=dFun 1 2 (evSs G6 b6)
def G7:Gm:=G6.add "neighbours_added" F6
def F7:List D->Option R:=dFun 1 2 (evSs G7 b7)
def G8:Gm:=G7.add "total" F7
def F8:List D->Option R:=dFun 2 2 (evSs G8 b8)
def G9:Gm:=G8.add "under" F8
def F9:List D->Option R:=dFun 3 3 (evSs G9 b9)
def G10:Gm:=G9.add "between" F9
def F10:List D->Option R:=dFun 1 1 (evSs G10 b10)
def G11:Gm:=G10.add "whole_part" F10
def F11:List D->Option R:=dFun 1 1 (evSs G11 b11)
def G12:Gm:=G11.add "cover" F11
def F12:List D->Option R:=dFun 0 0 (evSs G12 b12)
def G13:Gm:=G12.add "clear_film" F12
def F13:List D->Option R:=dFun 1 1 (evSs G13 b13)
def G14:Gm:=G13.add "rest_of" F13
def F14:List D->Option R:=dFun 2 2 (evSs G14 b14)
def G15:Gm:=G14.add "multiplied" F14
def F15:List D->Option R:=dFun 2 3 (evSs G15 b15)
def G16:Gm:=G15.add "seen" F15
def F16:List D->Option R:=dFun 2 2 (evSs G16 b16)
def G17:Gm:=G16.add "ink_film" F16
def F17:List D->Option R:=dFun 2 2 (evSs G17 b17)
def G18:Gm:=G17.add "joined" F17
def F18:List D->Option R:=dFun 2 2 (evSs G18 b18)
def G19:Gm:=G18.add "mixed" F18
def F19:List D->Option R:=dFun 2 3 (evSs G19 b19)
def G20:Gm:=G19.add "alone" F19
def F20:List D->Option R:=dFun 1 1 (evSs G20 b20)
def G21:Gm:=G20.add "sides" F20
def zTK:Gm:=G21.add "numbers_between" (λ_=>none)
def zTL:List D->Option R:=dFun 3 3 (evSs zTK b21)
def zTJ:Gm:=G21.add "numbers_between" zTL
def F21:List D->Option R:=dFun 3 3 (evSs zTJ b21)
def G22:Gm:=G21.add "numbers_between" F21
def F22:List D->Option R:=dFun 5 6 (evSs G22 b22)
def G23:Gm:=G22.add "rests_at" F22
def F23:List D->Option R:=dFun 2 6 (evSs G23 b23)
def G24:Gm:=G23.add "upright_crossings" F23
def F24:List D->Option R:=dFun 2 6 (evSs G24 b24)
def G25:Gm:=G24.add "level_crossings" F24
def F25:List D->Option R:=dFun 3 3 (evSs G25 b25)
def G26:Gm:=G25.add "comes_ahead" F25
def F26:List D->Option R:=dFun 3 6 (evSs G26 b26)
def G27:Gm:=G26.add "made_one" F26
def F27:List D->Option R:=dFun 3 6 (evSs G27 b27)
def G28:Gm:=G27.add "stops" F27
def F28:List D->Option R:=dFun 2 2 (evSs G28 b28)
def G29:Gm:=G28.add "middle" F28
def F29:List D->Option R:=dFun 2 4 (evSs G29 b29)
def G30:Gm:=G29.add "piece_between" F29
def F30:List D->Option R:=dFun 3 3 (evSs G30 b30)
def G31:Gm:=G30.add "counts_on" F30
def F31:List D->Option R:=dFun 3 5 (evSs G31 b31)
def G32:Gm:=G31.add "pieces" F31
def F32:List D->Option R:=dFun 1 1 (evSs G32 b32)
def G33:Gm:=G32.add "fall" F32
def F33:List D->Option R:=dFun 1 2 (evSs G33 b33)
def G34:Gm:=G33.add "right" F33
def F34:List D->Option R:=dFun 1 1 (evSs G34 b34)
def G35:Gm:=G34.add "empty_lists" F34
def F35:List D->Option R:=dFun 3 6 (evSs G35 b35)
def G36:Gm:=G35.add "all_pieces" F35
def F36:List D->Option R:=dFun 2 5 (evSs G36 b36)
def G37:Gm:=G36.add "row_of_shares" F36
noncomputable def F37:List D->Option R:=λ_=>none
def G38:Gm:=G37.add "shares" F37
noncomputable def F38:List D->Option R:=λ_=>none
def G39:Gm:=G38.add "own_shape" F38
def F39:List D->Option R:=dFun 1 1 (evSs G39 b39)
def G40:Gm:=G39.add "strength_or_one" F39
noncomputable def F40:List D->Option R:=λ_=>none
def G41:Gm:=G40.add "each_changed" F40
noncomputable def F41:List D->Option R:=λ_=>none
def G42:Gm:=G41.add "put_together" F41
noncomputable def F42:List D->Option R:=λ_=>none
def G43:Gm:=G42.add "covers" F42
noncomputable def F43:List D->Option R:=λ_=>none
def G44:Gm:=G43.add "thinned_covers" F43
noncomputable def F44:List D->Option R:=λ_=>none
def G45:Gm:=G44.add "clear_films" F44
noncomputable def F45:List D->Option R:=λ_=>none
def G46:Gm:=G45.add "joined_films" F45
def F46:List D->Option R:=dFun 2 4 (evSs G46 b46)
def G47:Gm:=G46.add "_law_cell" F46
def F47:List D->Option R:=dFun 1 1 (evSs G47 b47)
def G48:Gm:=G47.add "_law_whole" F47
def F48:List D->Option R:=dFun 2 3 (evSs G48 b48)
def G49:Gm:=G48.add "_law_bag" F48
noncomputable def F49:List D->Option R:=λ_=>none
def G50:Gm:=G49.add "_law_take" F49
def F50:List D->Option R:=dFun 2 5 (evSs G50 b50)
def G51:Gm:=G50.add "_law_low" F50
def F51:List D->Option R:=dFun 2 2 (evSs G51 b51)
def G52:Gm:=G51.add "_law_plus" F51
def F52:List D->Option R:=dFun 2 4 (evSs G52 b52)
def G53:Gm:=G52.add "_law_like" F52
noncomputable def F53:List D->Option R:=λ_=>none
def G54:Gm:=G53.add "_law_part" F53
noncomputable def F54:List D->Option R:=λ_=>none
def G55:Gm:=G54.add "_law_ink" F54
noncomputable def F55:List D->Option R:=λ_=>none
def G56:Gm:=G55.add "_law_at" F55
noncomputable def F56:List D->Option R:=λ_=>none
def G57:Gm:=G56.add "_law_box" F56
noncomputable def F57:List D->Option R:=λ_=>none
def G58:Gm:=G57.add "_law_shape" F57
def F58:List D->Option R:=dFun 2 4 (evSs G58 b58)
def G59:Gm:=G58.add "_law_rows_good" F58
def F59:List D->Option R:=dFun 1 3 (evSs G59 b59)
def G60:Gm:=G59.add "_law_closed" F59
noncomputable def L0:LamI:=zMV "thinned_covers" (top 56)
noncomputable def lb0:E:=.call 4 "times" (.cons (.var 0) (.cons (.var 1) .nil))
theorem lsc0:zFn "s" ["strength"] L0/\frN L0=(["strength"]:List Str):=zDe rfl λ_ _ _ _ _=>rfl
theorem lck0:cE lb0 L0.scope ("s"::["strength"]) bs L0.body=true:=rfl
def FL0:List D->Option R:=lamD 1 (evE G60 lb0)
def GL0:Gm:=G60.addL L0 FL0
noncomputable def L1:LamI:=zMV "Fill.films" (zAC (top 60) 1)
noncomputable def lb1:E:=.call 16 "ink_film" (.cons (.var 0) (.cons (.fld (.var 1) "ink") .nil))
theorem lsc1:zFn "s" ["self"] L1/\frN L1=(["self"]:List Str):=zDe rfl λ_ _ _ _ _=>rfl
theorem lck1:cE lb1 L1.scope ("s"::["self"]) bs L1.body=true:=rfl
def FL1:List D->Option R:=lamD 1 (evE GL0 lb1)
def GL1:Gm:=GL0.addL L1 FL1
noncomputable def L2:LamI:=zMV "Join.films" (zAC (top 61) 1)
noncomputable def lb2:E:=.call 18 "mixed" (.cons (.var 0) (.cons (.fld (.var 1) "strength") .nil))
theorem lsc2:zFn "film" ["self"] L2/\frN L2=(["self"]:List Str):=zDe (by decide +kernel) λ_ _ _ _ _=>rfl
theorem lck2:cE lb2 L2.scope ("film"::["self"]) bs L2.body=true:=by decide +kernel
def FL2:List D->Option R:=lamD 1 (evE GL1 lb2)
def GL2:Gm:=GL1.addL L2 FL2
noncomputable def L3:LamI:=zMV "Group.films" (zAC (top 62) 1)
noncomputable def lb3:E:=.call 19 "alone" (.cons (.var 0) (.cons (.fld (.var 1) "strength") .nil))
theorem lsc3:zFn "film" ["self"] L3/\frN L3=(["self"]:List Str):=zDe (by decide +kernel) λ_ _ _ _ _=>rfl
theorem lck3:cE lb3 L3.scope ("film"::["self"]) bs L3.body=true:=rfl
def FL3:List D->Option R:=lamD 1 (evE GL2 lb3)
def GL3:Gm:=GL2.addL L3 FL3
def D0:Dm:=[(("_law_low":Str),zGA F50),(("_law_rows_good":Str),zGA F58)]
def FM34:MF:=zAw 1 1 (evSs' GL3 D0 mb34)
def D1:Dm:=D0.add "empty_lists" FM34
def FM37:MF:=zAw 3 7 (evSs' GL3 D1 mb37)
def D2:Dm:=D1.add "shares" FM37
def FM38:MF:=zAw 1 1 (evSs' GL3 D2 mb38)
def D3:Dm:=D2.add "own_shape" FM38
def FM40:MF:=zAw 2 2 (evSs' GL3 D3 mb40)
def D4:Dm:=D3.add "each_changed" FM40
def FM41:MF:=zAw 3 5 (evSs' GL3 D4 mb41)
def D5:Dm:=D4.add "put_together" FM41
def FM42:MF:=zAw 3 3 (evSs' GL3 D5 mb42)
def D6:Dm:=D5.add "covers" FM42
def FM43:MF:=lamM FM40 0 L0 [3] P43.length N43.length (zDa GL3 D6 mp0) (evM GL3 D6 me0)
def D7:Dm:=D6.add "thinned_covers" FM43
def FM44:MF:=zAw 2 2 (evSs' GL3 D7 mb44)
def D8:Dm:=D7.add "clear_films" FM44
def zE4:MF:=zGD "Fill" 3 (zDI.map λp=>(p.1,evM GL3 D8 p.2))
def D9:Dm:=D8.add "Fill()" zE4
def zDL:MF:=zGD "Join" 2 (zDH.map λp=>(p.1,evM GL3 D9 p.2))
def D10:Dm:=D9.add "Join()" zDL
def zCt:MF:=zGD "Group" 2 (zCn.map λp=>(p.1,evM GL3 D10 p.2))
def D11:Dm:=D10.add "Group()" zCt
def zAe:MF:=lamM FM40 1 L1 [0] zCO.length zA2.length (zDa GL3 D11 mp1) (evM GL3 D11 me1)
def D12:Dm:=D11.add "Fill.films" zAe
def FM45:MF:=zAw 3 5 (evSs' GL3 D12 mb45)
def D13:Dm:=D12.add "joined_films" FM45
def zC6:MF:=lamM FM40 2 L2 [0] zBd.length zAk.length (zDa GL3 D13 mp2) (evM GL3 D13 me2)
def D14:Dm:=D13.add "Join.films" zC6
def zCh:MF:=lamM FM40 3 L3 [0] zBM.length zAd.length (zDa GL3 D14 mp3) (evM GL3 D14 me3)
def D15:Dm:=D14.add "Group.films" zCh
def zOP:MF:=zAw 3 5 (evSs' GL3 D15 zRf)
def D16:Dm:=D15.add "joined_films" zOP
def zCR:MF:=lamM FM40 2 L2 [0] zBd.length zAk.length (zDa GL3 D16 mp2) (evM GL3 D16 zRe)
def D17:Dm:=D16.add "Join.films" zCR
def zCA:MF:=lamM FM40 3 L3 [0] zBM.length zAd.length (zDa GL3 D17 mp3) (evM GL3 D17 zRd)
def D18:Dm:=D17.add "Group.films" zCA
def FM49:MF:=zAw 2 3 (evSs' GL3 D18 mb49)
def D19:Dm:=D18.add "_law_take" FM49
def FM53:MF:=zAw 1 3 (evSs' GL3 D19 mb53)
def D20:Dm:=D19.add "_law_part" FM53
def FM54:MF:=zAw 1 2 (evSs' GL3 D20 mb54)
def D21:Dm:=D20.add "_law_ink" FM54
def FM55:MF:=zAw 2 3 (evSs' GL3 D21 mb55)
def D22:Dm:=D21.add "_law_at" FM55
def FM56:MF:=zAw 3 7 (evSs' GL3 D22 mb56)
def D23:Dm:=D22.add "_law_box" FM56
def FM57:MF:=zAw 3 7 (evSs' GL3 D23 mb57)
def D24:Dm:=D23.add "_law_shape" FM57
def FM60:MF:=zAw 1 14 (evSs' GL3 D24 mb60)
theorem len1 {T:Type}:∀ {us:List T},us.length=1->∃ a0,us=[a0]
 | [a0],_=>⟨a0,rfl⟩
theorem len2 {T:Type}:∀ {us:List T},us.length=2->∃ a0 a1,us=[a0,a1]
 | [a0,a1],_=>⟨a0,a1,rfl⟩
theorem len3 {T:Type}:∀ {us:List T},us.length=3->∃ a0 a1 a2,us=[a0,a1,a2]
 | [a0,a1,a2],_=>⟨a0,a1,a2,rfl⟩
theorem len4 {T:Type}:∀ {us:List T},us.length=4->∃ a0 a1 a2 a3,us=[a0,a1,a2,a3]
 | [a0,a1,a2,a3],_=>⟨a0,a1,a2,a3,rfl⟩
set_option maxHeartbeats 4000000 in
theorem all_mk {l:W.OpenLaw}(X:K.In h)(G:h.Ns mainGlobals mg)(hfa:mg "law"=some (.ref fa))
    
      
   (lt0:tabQ K "thinned_covers"=some (lc0,lp0))
   (lt1:tabQ K "Fill.films"=some (lc1,lp1))
   (lt2:tabQ K "Join.films"=some (lc2,lp2))
   (lt3:tabQ K "Group.films"=some (lc3,lp3))
  
    
  
  (t0:FT K "common_measure" (top 8) f0)
  (t1:FT K "ratio" (top 9) f1)
  (t2:FT K "plus" (top 10) f2)
  (t3:FT K "minus" (top 11) f3)
  (t4:FT K "times" (top 12) f4)
  (t5:FT K "parted" (top 13) f5)
  (t6:FT K "neighbours_added" (top 14) f6)
  (t7:FT K "total" (top 15) f7)
  (t8:FT K "under" (top 16) f8)
  (t9:FT K "between" (top 17) f9)
  (t10:FT K "whole_part" (top 18) f10)
  (t11:FT K "cover" (top 20) f11)
  (t12:FT K "clear_film" (top 21) f12)
  (t13:FT K "rest_of" (top 22) f13)
  (t14:FT K "multiplied" (top 23) f14)
  (t15:FT K "seen" (top 24) f15)
  (t16:FT K "ink_film" (top 25) f16)
  (t17:FT K "joined" (top 26) f17)
  (t18:FT K "mixed" (top 27) f18)
  (t19:FT K "alone" (top 28) f19)
  (t20:FT K "sides" (top 30) f20)
  (t21:FT K "numbers_between" (top 32) f21)
  (t22:FT K "rests_at" (top 33) f22)
  (t23:FT K "upright_crossings" (top 34) f23)
  (t24:FT K "level_crossings" (top 35) f24)
  (t25:FT K "comes_ahead" (top 36) f25)
  (t26:FT K "made_one" (top 37) f26)
  (t27:FT K "stops" (top 38) f27)
  (t28:FT K "middle" (top 39) f28)
  (t29:FT K "piece_between" (top 40) f29)
  (t30:FT K "counts_on" (top 41) f30)
  (t31:FT K "pieces" (top 42) f31)
  (t32:FT K "fall" (top 43) f32)
  (t33:FT K "right" (top 44) f33)
  (t34:FT K "empty_lists" (top 46) f34)
  (t35:FT K "all_pieces" (top 47) f35)
  (t36:FT K "row_of_shares" (top 48) f36)
  (t37:FT K "shares" (top 49) f37)
  (t38:FT K "own_shape" (top 51) f38)
  (t39:FT K "strength_or_one" (top 52) f39)
  (t40:FT K "each_changed" (top 53) f40)
  (t41:FT K "put_together" (top 54) f41)
  (t42:FT K "covers" (top 55) f42)
  (t43:FT K "thinned_covers" (top 56) f43)
  (t44:FT K "clear_films" (top 57) f44)
  (t45:FT K "joined_films" (top 58) f45)
  (t46:FT K "_law_cell" (top 64) f46)
  (t47:FT K "_law_whole" (top 65) f47)
  (t48:FT K "_law_bag" (top 66) f48)
  (t49:FT K "_law_take" (top 67) f49)
  (t50:FT K "_law_low" (top 68) f50)
  (t51:FT K "_law_plus" (top 69) f51)
  (t52:FT K "_law_like" (top 72) f52)
  (t53:FT K "_law_part" (top 73) f53)
  (t54:FT K "_law_ink" (top 74) f54)
  (t55:FT K "_law_at" (top 75) f55)
  (t56:FT K "_law_box" (top 76) f56)
  (t57:FT K "_law_shape" (top 77) f57)
  (t58:FT K "_law_rows_good" (top 78) f58)
  (t59:FT K "_law_closed" (top 79) f59)
  (a60:W.nsIn K mainGlobals "law"=some (some (.ref f60))) (l60:K.lookup f60=some ⟨oc60,od60,.func (W.fnOf "law" "law" (zAZ (top 80)) (zAE (top 80)) (zAA (top 80)) .none kV60 dc60 pm60 an60 cd60 ct60),sl60⟩) (c60:W.codeIn K cd60 "law"=true) (k60:W.keepIn K (.ref f60)=true)
  (z0:W.nsIn K mainGlobals "abs"=some none)
  (z1:W.nsIn K mainGlobals "len"=some none)
  (z2:W.nsIn K mainGlobals "range"=some none)
  (z3:W.nsIn K mainGlobals "list"=some none)
  (z4:W.nsIn K mainGlobals "tuple"=some none)
  (z5:W.nsIn K mainGlobals "zip"=some none)
  (z6:W.nsIn K mainGlobals "reversed"=some none)
  (z7:W.nsIn K mainGlobals "max"=some none)
  (z8:W.nsIn K mainGlobals "isinstance"=some none)
  (z9:W.nsIn K mainGlobals "bool"=some none)
  (z10:W.nsIn K mainGlobals "int"=some none)
  (ca0:W.nsIn K mainGlobals "NOUGHT"=some (some (.ref g0))) (cl0:K.lookup g0=some ⟨.type "tuple",cod0,.seq cit0 cn0,csl0⟩) (cv0:cit0.toList.map absV=[some (.int 0),some (.int 1)])
  (ca1:W.nsIn K mainGlobals "HALF"=some (some (.ref g1))) (cl1:K.lookup g1=some ⟨.type "tuple",cod1,.seq cit1 cn1,csl1⟩) (cv1:cit1.toList.map absV=[some (.int 1),some (.int 2)])
  (ca2:W.nsIn K mainGlobals "ONE"=some (some (.ref g2))) (cl2:K.lookup g2=some ⟨.type "tuple",cod2,.seq cit2 cn2,csl2⟩) (cv2:cit2.toList.map absV=[some (.int 1),some (.int 1)])
  (u_u0:UC K "Fill" o_u0 ["shape","ink","strength"])
  (u_u1:UC K "Join" o_u1 ["layers","strength"])
  (u_u2:UC K "Group" o_u2 ["layers","strength"])
  (m_q0:W.findIn K (.ref o_u0) "__init__"=some (some (.ref f_q0)))
  (i_q0:W.isFn K (.ref f_q0)=true)
  (l_q0:K.lookup f_q0=some ⟨oc_q0,od_q0,.func (W.fnOf "__init__" "Fill.__init__" (zAZ (zAC (top 60) 0)) (zAE (zAC (top 60) 0)) (zAA (zAC (top 60) 0)) (.ref T_q0) kV_q0 dc_q0 pm_q0 an_q0 cd_q0 ct_q0),sl_q0⟩)
  (c_q0:W.codeIn K cd_q0 "Fill.__init__"=true)
  (k_q0:W.keepIn K (.ref f_q0)=true)
  (lT_q0:K.lookup T_q0=some ⟨ocT_q0,odT_q0,.seq #[.none] nT_q0,slT_q0⟩)
  (t_q1:FQ K o_u0 f_q1 "films" "Fill.films" (zAC (top 60) 1))
  (m_q2:W.findIn K (.ref o_u1) "__init__"=some (some (.ref f_q2)))
  (i_q2:W.isFn K (.ref f_q2)=true)
  (l_q2:K.lookup f_q2=some ⟨oc_q2,od_q2,.func (W.fnOf "__init__" "Join.__init__" (zAZ (zAC (top 61) 0)) (zAE (zAC (top 61) 0)) (zAA (zAC (top 61) 0)) (.ref T_q2) kV_q2 dc_q2 pm_q2 an_q2 cd_q2 ct_q2),sl_q2⟩)
  (c_q2:W.codeIn K cd_q2 "Join.__init__"=true)
  (k_q2:W.keepIn K (.ref f_q2)=true)
  (lT_q2:K.lookup T_q2=some ⟨ocT_q2,odT_q2,.seq #[.none] nT_q2,slT_q2⟩)
  (t_q3:FQ K o_u1 f_q3 "films" "Join.films" (zAC (top 61) 1))
  (m_q4:W.findIn K (.ref o_u2) "__init__"=some (some (.ref f_q4)))
  (i_q4:W.isFn K (.ref f_q4)=true)
  (l_q4:K.lookup f_q4=some ⟨oc_q4,od_q4,.func (W.fnOf "__init__" "Group.__init__" (zAZ (zAC (top 62) 0)) (zAE (zAC (top 62) 0)) (zAA (zAC (top 62) 0)) (.ref T_q4) kV_q4 dc_q4 pm_q4 an_q4 cd_q4 ct_q4),sl_q4⟩)
  (c_q4:W.codeIn K cd_q4 "Group.__init__"=true)
  (k_q4:W.keepIn K (.ref f_q4)=true)
  (lT_q4:K.lookup T_q4=some ⟨ocT_q4,odT_q4,.seq #[.none] nT_q4,slT_q4⟩)
  (t_q5:FQ K o_u2 f_q5 "films" "Group.films" (zAC (top 62) 1))
  : ∃ fd:FuncData,(∀ (s:Shared) (v:Value),BindsTo s fd ⟨[v],[]⟩ [("_law_script",v)])/\∀ base:Heap,K.In base->base.Ns mainGlobals mg->FnOk l.prog w K mg base CX0 79 fa fd ["_law_script"] (spM K FM60):=by
 have e:=hfa.symm.trans (W.mg_of X G a60);cases e;obtain⟨_,E21⟩:=t21.F;have B21:=E21.binds (ps:=P21) λ_ _ _ _ _ _ us hl=>by obtain⟨_,_,_,rfl⟩:=len3 hl;rfl
 obtain⟨_,E43⟩:=t43.F;have B43:=E43.binds (ps:=P43) λ_ _ _ _ _ _ us hl=>by obtain⟨_,_,_,_,rfl⟩:=len4 hl;rfl
 have E60:=zKc (st:=top 80) l60 c60 k60;have B60:=E60.binds (ps:=P60) λ_ _ _ _ _ _ us hl=>by obtain⟨_,rfl⟩:=len1 hl;rfl
 refine⟨W.fnOf "law" "law" (zAZ (top 80)) (zAE (top 80)) (zAA (top 80)) .none kV60 dc60 pm60 an60 cd60 ct60,λs v=>.of_eq rfl,λbase _ _=>?_⟩;have g0:GOk l.prog w K mg base 0 G0 bs:=⟨λx F h=>absurd h (by simp[G0]),λx d h=>?_,λx h=>?_,trivial,trivial,trivial,λj L F e=>absurd e (by simp[G0]),λp h=>?_⟩
 .have g21:GOk l.prog w K mg base 21 G21 bs:=(.aT 1 ["ring"] (.aT 2 ["film","t","added"] (.aT 2 ["film","t"] (.aT 2 ["upper","lower"] (.aT 2 ["s","ink"] (.aT 2 ["film","ground","through"] (.aT 2 ["parts","by"] (.aT 1 ["part"] (.aT 0 [] (.aT 1 ["share"] (.aT 1 ["one"] (.aT 3 ["one","low","high"] (.aT 2 ["one","other"] (.aT 1 ["some","sums"] (.aT 1 ["some","added"] (.aT 2 ["one","other"] (.aT 2 ["one","other"] (.aT 2 ["one","other"] (.aT 2 ["one","other"] (.aT 2 ["top","bottom","measure"] (.aT 2 ["one","other","rest"] g0 X G t0) X G t1) X G t2) X G t3) X G t4) X G t5) X G t6) X G t7) X G t8) X G t9) X G t10) X G t11) X G t12) X G t13) X G t14) X G t15) X G t16) X G t17) X G t18) X G t19) X G t20);have g21_0:GOk l.prog w K mg base 21 zTK bs:=g21.addN E21 (W.mg_of X G t21.a) B21;have g21_1:GOk l.prog w K mg base 22 zTJ bs:=g21.addR g21_0 (by decide) E21 sc21 ck21 (W.mg_of X G t21.a) B21;have g22:GOk l.prog w K mg base 23 G22 bs:=g21.addR g21_1 (by decide) E21 sc21 ck21 (W.mg_of X G t21.a) B21;have g43:GOk l.prog w K mg base 39 G43 bs:=(.aU ["width","height","shape"] (.aU ["some","others","make"] (.aU ["rows","change"] (.aT 1 ["strength"] (.aU ["shape"] (.aU ["width","height","shape"] (.aT 2 ["falls","rights","told","fallen","column"] (.aT 3 ["width","height","shape","found","ring","side"] (.aT 1 ["count"] (.aT 1 ["piece","column"] (.aT 1 ["piece"] (.aT 3 ["width","height","side","points","parts"] (.aT 3 ["width","height","piece"] (.aT 2 ["start","end","column","row"] (.aT 2 ["one","other"] (.aT 3 ["width","height","side","start","end","crossed"] (.aT 3 ["some","others","to_the_right","points","k","point"] (.aT 3 ["one","other","to_the_right"] (.aT 2 ["side","height","start","end","numbers","widths"] (.aT 2 ["side","width","start","end","numbers","heights"] (.aT 5 ["numbers","start","end","rest","rest_end","slope"] g22 X G t22) X G t23) X G t24) X G t25) X G t26) X G t27) X G t28) X G t29) X G t30) X G t31) X G t32) X G t33) X G t34) X G t35) X G t36) X G t37) X G t38) X G t39) X G t40) X G t41) X G t42);have g44:GOk l.prog w K mg base 39 G44 bs:=g43.addN E43 (W.mg_of X G t43.a) B43;have g60:GOk l.prog w K mg base 47 G60 bs:=(.aT 1 ["_law_rows","_law_row","_law_film"] (.aT 2 ["_law_found","_law_due","_law_k","_law_j"] (.aU ["_law_bag_here","_law_width","_law_height"] (.aU ["_law_bag_here","_law_width","_law_height"] (.aU ["_law_bag_here","_law_most"] (.aU ["_law_bag_here"] (.aU ["_law_bag_here"] (.aT 2 ["_law_found","_law_due","_law_part_here","_law_number"] (.aT 2 ["_law_one","_law_other"] (.aT 2 ["_law_top","_law_bottom","_law_one","_law_other","_law_rest"] (.aU ["_law_bag_here","_law_many"] (.aT 2 ["_law_script","_law_at_here","_law_cell_here"] (.aT 1 ["_law_found"] (.aT 2 ["_law_script","_law_k","_law_seed","_law_some"] (.aU ["width","height","layers"] (.aU ["width","height"] g44 X G t44) X G t45) X G t46) X G t47) X G t48) X G t49) X G t50) X G t51) X G t52) X G t53) X G t54) X G t55) X G t56) X G t57) X G t58) X G t59);have bk_q0:=λ(s:Shared) (args:Args) (bi:List (Str×Value)) kk (hK:K.In s.heap) h1 h2=>zD9 (s:=s) (args:=args) (binds:=bi) (kk:=kk) (fd:=W.fnOf "__init__" "Fill.__init__" (zAZ (zAC (top 60) 0)) (zAE (zAC (top 60) 0)) (zAA (zAC (top 60) 0)) (.ref T_q0) kV_q0 dc_q0 pm_q0 an_q0 cd_q0 ct_q0) rfl lT_q0 hK h1 h2
  obtain⟨_,E_q1⟩:=t_q1.F;have B_q1:=E_q1.binds (ps:=zCO) (bz3 rfl rfl);have bk_q2:=λ(s:Shared) (args:Args) (bi:List (Str×Value)) kk (hK:K.In s.heap) h1 h2=>zD9 (s:=s) (args:=args) (binds:=bi) (kk:=kk) (fd:=W.fnOf "__init__" "Join.__init__" (zAZ (zAC (top 61) 0)) (zAE (zAC (top 61) 0)) (zAA (zAC (top 61) 0)) (.ref T_q2) kV_q2 dc_q2 pm_q2 an_q2 cd_q2 ct_q2) rfl lT_q2 hK h1 h2
  obtain⟨_,E_q3⟩:=t_q3.F;have B_q3:=E_q3.binds (ps:=zBd) (bz3 rfl rfl);have bk_q4:=λ(s:Shared) (args:Args) (bi:List (Str×Value)) kk (hK:K.In s.heap) h1 h2=>zD9 (s:=s) (args:=args) (binds:=bi) (kk:=kk) (fd:=W.fnOf "__init__" "Group.__init__" (zAZ (zAC (top 62) 0)) (zAE (zAC (top 62) 0)) (zAA (zAC (top 62) 0)) (.ref T_q4) kV_q4 dc_q4 pm_q4 an_q4 cd_q4 ct_q4) rfl lT_q4 hK h1 h2
  obtain⟨_,E_q5⟩:=t_q5.F;have B_q5:=E_q5.binds (ps:=zBM) (bz3 rfl rfl);have gl0:GOk l.prog w K mg base 48 GL0 bs:=g60.addL lsc0.1 lsc0.2 lck0;have fq0:zD4 K "thinned_covers"=some f43:=by
   unfold zD4;rw[show zKA.lookup ("thinned_covers":Str)=none from by decide +kernel];simp only[t43.a]
  have ld0:zDY K "thinned_covers" (top 56) f43 N43 (zAE (top 56)).dropLast (zCf (top 56)) "each_changed" L0 [3]:=by
   have cp:=zIA (sc:=zAA (top 56)) (ps:=N43) (ys:=["strength"]) (ix:=[3]) (by decide +kernel);rw[<- lsc0.2] at cp;exact⟨⟨_,_,_,_,rfl⟩,rfl,rfl,by decide,fq0,⟨_,_,lt0⟩,by decide +kernel,by decide,λ_=>rfl,by rw[lsc0.2];decide,cp.1,cp.2,zDh _⟩
  have gl1:GOk l.prog w K mg base 49 GL1 bs:=gl0.addL lsc1.1 lsc1.2 lck1;have fq1:zD4 K "Fill.films"=some f_q1:=by
   unfold zD4;rw[show zKA.lookup ("Fill.films":Str)=some (("Fill":Str),("films":Str)) from by decide +kernel];simp only[show W.nsIn K mainGlobals _=_ from u_u0.a,t_q1.M.1]
  have ld1:zDY K "Fill.films" (zAC (top 60) 1) f_q1 zA2 (zAE (zAC (top 60) 1)).dropLast (zCf (zAC (top 60) 1)) "each_changed" L1 [0]:=by
   have cp:=zIA (sc:=zAA (zAC (top 60) 1)) (ps:=zA2) (ys:=["self"]) (ix:=[0]) (by decide +kernel);rw[<- lsc1.2] at cp;exact⟨⟨_,_,_,_,rfl⟩,rfl,rfl,by decide,fq1,⟨_,_,lt1⟩,by decide +kernel,by decide,λ_=>rfl,by rw[lsc1.2];decide,cp.1,cp.2,zDh _⟩
  have gl2:GOk l.prog w K mg base 50 GL2 bs:=gl1.addL lsc2.1 lsc2.2 lck2;have fq2:zD4 K "Join.films"=some f_q3:=by
   unfold zD4;rw[show zKA.lookup ("Join.films":Str)=some (("Join":Str),("films":Str)) from by decide +kernel];simp only[show W.nsIn K mainGlobals _=_ from u_u1.a,t_q3.M.1]
  have ld2:zDY K "Join.films" (zAC (top 61) 1) f_q3 zAk (zAE (zAC (top 61) 1)).dropLast (zCf (zAC (top 61) 1)) "each_changed" L2 [0]:=by
   have cp:=zIA (sc:=zAA (zAC (top 61) 1)) (ps:=zAk) (ys:=["self"]) (ix:=[0]) (by decide +kernel);rw[<- lsc2.2] at cp;exact⟨⟨_,_,_,_,rfl⟩,rfl,rfl,by decide,fq2,⟨_,_,lt2⟩,by decide +kernel,by decide,λ_=>rfl,by rw[lsc2.2];decide,cp.1,cp.2,zDh _⟩
  have gl3:GOk l.prog w K mg base 51 GL3 bs:=gl2.addL lsc3.1 lsc3.2 lck3;have fq3:zD4 K "Group.films"=some f_q5:=by
   unfold zD4;rw[show zKA.lookup ("Group.films":Str)=some (("Group":Str),("films":Str)) from by decide +kernel];simp only[show W.nsIn K mainGlobals _=_ from u_u2.a,t_q5.M.1]
  have ld3:zDY K "Group.films" (zAC (top 62) 1) f_q5 zAd (zAE (zAC (top 62) 1)).dropLast (zCf (zAC (top 62) 1)) "each_changed" L3 [0]:=by
   have cp:=zIA (sc:=zAA (zAC (top 62) 1)) (ps:=zAd) (ys:=["self"]) (ix:=[0]) (by decide +kernel);rw[<- lsc3.2] at cp;exact⟨⟨_,_,_,_,rfl⟩,rfl,rfl,by decide,fq3,⟨_,_,lt3⟩,by decide +kernel,by decide,λ_=>rfl,by rw[lsc3.2];decide,cp.1,cp.2,zDh _⟩
  have c0:DmOk l.prog w K mg base 51 []:=λx F h=>absurd h (by simp)
  have c1_:=c0.lift1 gl3 (mem_of_getElem? (i:=50) (show GL3.fns[50]?=some (("_law_low":Str),F50) from rfl));have c2_:=c1_.lift1 gl3 (mem_of_getElem? (i:=58) (show GL3.fns[58]?=some (("_law_rows_good":Str),F58) from rfl));have d0:DmOk l.prog w K mg base 51 D0:=c2_;have d6:DmOk l.prog w K mg base 57 D6:=(.aT 3 ["width","height","shape"] (.aT 3 ["some","others","make","rows","row"] (.aT 2 ["rows","change"] (.aT 1 ["shape"] (.aT 3 ["width","height","shape","falls","rights","piece","place"] (.aT 1 ["count"] d0 gl3 X G t34) gl3 X G t37) gl3 X G t38) gl3 X G t40) gl3 X G t41) gl3 X G t42);have d7:DmOk l.prog w K mg base 58 D7:=d6.addF (gl3.mono (by decide)) E43 sc43 ld0 pck0 eck0 (W.mg_of X G t43.a) B43 (mem_of_getElem? (i:=5) (show D6[5]?=some (("each_changed":Str),FM40) from rfl));have d8:DmOk l.prog w K mg base 59 D8:=(.aT 2 ["width","height"] d7 gl3 X G t44);have fi_q0:=zG1 (J:=GL3) (c := "Fill") (C:=o_u0) (y := "self") (ys:=zCN.tail) (L:=zDI) l_q0 c_q0 zIP (by decide +kernel) (by decide) zG4 (gl3.mono (by decide)) d8 u_u0.a u_u0.c u_u0.n (by decide +kernel) (by decide +kernel) (by decide +kernel) (by decide);have d9:DmOk l.prog w K mg base 61 D9:=(d8.mono (by decide)).addC (kw := "strength") (j:=60) (by decide) (by decide +kernel) (W.mg_of X G u_u0.a) ⟨u_u0.k,m_q0,i_q0,u_u0.kc⟩ fi_q0 (λs us hK hl=>by obtain⟨_,_,_,_,rfl⟩:=len4 (us:=us) (by simpa [zCN] using hl);exact bk_q0 s _ _ _ hK rfl rfl) (λs us hK hl=>by obtain⟨_,_,_,rfl⟩:=len3 (us:=us) (by simpa [zCN] using hl);exact bk_q0 s _ _ _ hK rfl rfl) (λs us u hK hl=>by obtain⟨_,_,_,rfl⟩:=len3 (us:=us) (by simpa [zCN] using hl);exact bk_q0 s _ _ _ hK rfl rfl);have fi_q2:=zG1 (J:=GL3) (c := "Join") (C:=o_u1) (y := "self") (ys:=zCM.tail) (L:=zDH) l_q2 c_q2 zIO (by decide +kernel) (by decide) zG3 (gl3.mono (by decide)) d9 u_u1.a u_u1.c u_u1.n (by decide +kernel) (by decide +kernel) (by decide +kernel) (by decide);have d10:DmOk l.prog w K mg base 63 D10:=(d9.mono (by decide)).addC (kw := "strength") (j:=62) (by decide) (by decide +kernel) (W.mg_of X G u_u1.a) ⟨u_u1.k,m_q2,i_q2,u_u1.kc⟩ fi_q2 (λs us hK hl=>by obtain⟨_,_,_,rfl⟩:=len3 (us:=us) (by simpa [zCM] using hl);exact bk_q2 s _ _ _ hK rfl rfl) (λs us hK hl=>by obtain⟨_,_,rfl⟩:=len2 (us:=us) (by simpa [zCM] using hl);exact bk_q2 s _ _ _ hK rfl rfl) (λs us u hK hl=>by obtain⟨_,_,rfl⟩:=len2 (us:=us) (by simpa [zCM] using hl);exact bk_q2 s _ _ _ hK rfl rfl);have fi_q4:=zG1 (J:=GL3) (c := "Group") (C:=o_u2) (y := "self") (ys:=zBq.tail) (L:=zCn) l_q4 c_q4 zGf (by decide +kernel) (by decide) zGE (gl3.mono (by decide)) d10 u_u2.a u_u2.c u_u2.n (by decide +kernel) (by decide +kernel) (by decide +kernel) (by decide);have d11:DmOk l.prog w K mg base 65 D11:=(d10.mono (by decide)).addC (kw := "strength") (j:=64) (by decide) (by decide +kernel) (W.mg_of X G u_u2.a) ⟨u_u2.k,m_q4,i_q4,u_u2.kc⟩ fi_q4 (λs us hK hl=>by obtain⟨_,_,_,rfl⟩:=len3 (us:=us) (by simpa [zBq] using hl);exact bk_q4 s _ _ _ hK rfl rfl) (λs us hK hl=>by obtain⟨_,_,rfl⟩:=len2 (us:=us) (by simpa [zBq] using hl);exact bk_q4 s _ _ _ hK rfl rfl) (λs us u hK hl=>by obtain⟨_,_,rfl⟩:=len2 (us:=us) (by simpa [zBq] using hl);exact bk_q4 s _ _ _ hK rfl rfl)
  have d12:DmOk l.prog w K mg base 66 D12:=d11.addFM (gl3.mono (by decide)) E_q1 zFF ld1 pck1 eck1 B_q1 (mem_of_getElem? (i:=5) (show D11[5]?=some (("each_changed":Str),FM40) from rfl)) u_u0.a u_u0.c t_q1.M (by decide +kernel);have d13:DmOk l.prog w K mg base 67 D13:=(.aT 3 ["width","height","layers","rows","layer"] d12 gl3 X G t45);have d14:DmOk l.prog w K mg base 68 D14:=d13.addFM (gl3.mono (by decide)) E_q3 zCy ld2 pck2 eck2 B_q3 (mem_of_getElem? (i:=5) (show D13[5]?=some (("each_changed":Str),FM40) from rfl)) u_u1.a u_u1.c t_q3.M (by decide +kernel);have d15:DmOk l.prog w K mg base 69 D15:=d14.addFM (gl3.mono (by decide)) E_q5 zCb ld3 pck3 eck3 B_q5 (mem_of_getElem? (i:=5) (show D14[5]?=some (("each_changed":Str),FM40) from rfl)) u_u2.a u_u2.c t_q5.M (by decide +kernel);have d16:DmOk l.prog w K mg base 70 D16:=(.aT 3 ["width","height","layers","rows","layer"] d15 gl3 X G t45);have d17:DmOk l.prog w K mg base 71 D17:=d16.addFM (gl3.mono (by decide)) E_q3 zCy ld2 pck2 zS2 B_q3 (mem_of_getElem? (i:=5) (show D16[5]?=some (("each_changed":Str),FM40) from rfl)) u_u1.a u_u1.c t_q3.M (by decide +kernel);have d18:DmOk l.prog w K mg base 72 D18:=d17.addFM (gl3.mono (by decide)) E_q5 zCb ld3 pck3 zS1 B_q5 (mem_of_getElem? (i:=5) (show D17[5]?=some (("each_changed":Str),FM40) from rfl)) u_u2.a u_u2.c t_q5.M (by decide +kernel);have d24:DmOk l.prog w K mg base 78 D24:=(.aT 3 ["_law_bag_here","_law_width","_law_height","_law_way","_law_points","_law_k","_law_x"] (.aT 3 ["_law_bag_here","_law_width","_law_height","_law_left","_law_low_here","_law_far","_law_high"] (.aT 2 ["_law_bag_here","_law_most","_law_bottom"] (.aT 1 ["_law_bag_here","_law_parts"] (.aT 1 ["_law_bag_here","_law_bottom","_law_way"] (.aT 2 ["_law_bag_here","_law_many","_law_some"] d18 gl3 X G t49) gl3 X G t53) gl3 X G t54) gl3 X G t55) gl3 X G t56) gl3 X G t57);exact zLJ E60 sc60 zTj (gl3.mono (by decide)) d24
 .simp only [G0,mem_cons,Prod.mk.injEq,List.mem_nil_iff,or_false,not_mem_nil] at h;rcases h with ⟨rfl,rfl⟩ | ⟨rfl,rfl⟩ | ⟨rfl,rfl⟩ | ⟨rfl,rfl⟩ | ⟨rfl,rfl⟩
  .exact zFX (ns:=[0,1]) (W.mg_of X G ca0) cl0 cv0
  .exact zFX (ns:=[1,2]) (W.mg_of X G ca1) cl1 cv1
  .exact zFX (ns:=[1,1]) (W.mg_of X G ca2) cl2 cv2
  .exact ⟨_,.ref f11,W.mg_of X G t11.a,rfl,by rw[Den];exact⟨_,rfl,t11.a⟩⟩
  .exact ⟨_,.ref f17,W.mg_of X G t17.a,rfl,by rw[Den];exact⟨_,rfl,t17.a⟩⟩
 .simp only [bs,mem_cons,List.mem_nil_iff,or_false,not_mem_nil] at h;rcases h with rfl | rfl | rfl | rfl | rfl | rfl | rfl | rfl | rfl | rfl | rfl
  .exact W.mg_none_of X G z0
  .exact W.mg_none_of X G z1
  .exact W.mg_none_of X G z2
  .exact W.mg_none_of X G z3
  .exact W.mg_none_of X G z4
  .exact W.mg_none_of X G z5
  .exact W.mg_none_of X G z6
  .exact W.mg_none_of X G z7
  .exact W.mg_none_of X G z8
  .exact W.mg_none_of X G z9
  .exact W.mg_none_of X G z10
 .simp only [G0,mem_cons,List.mem_nil_iff,or_false,not_mem_nil] at h;rcases h with rfl | rfl | rfl | rfl | rfl | rfl | rfl
  .exact u_u0.o (by decide)
  .exact u_u0.o (by decide)
  .exact u_u0.o (by decide)
  .exact u_u1.o (by decide)
  .exact u_u1.o (by decide)
  .exact u_u2.o (by decide)
  .exact u_u2.o (by decide)
end Q
end
open PySem L2 DL
local macro_rules | `(tactic| walk_at "m")=>`(tactic| (repeat walk_at "mw"))
section
namespace Q
open PySem DL
open L2
theorem h0:zQc F0:=λa b Q ha hb h=>zO8 ha hb h
theorem h1:zEz F1:=zL4 rfl h0
theorem h2:zEM F2:=zOl (nr:=1) rfl h1
theorem h3:zE2 F3:=zMG (nr:=1) rfl h1
theorem h4:zDX F4:=zLv (nr:=1) rfl h1
theorem h5:zFm F5:=zJc rfl h1
theorem h6:zNU F6:=zO3 rfl h2
theorem h7:zLc F7:=zLu (nn:=6) (ng:=0) rfl h6 rfl
theorem h8:zEy F8:=zLs
theorem h9 (p lo hi:Rat)(n:Nat)(Q:R->Prop)(hp:RB n p)(hl:RB n lo)(hh:RB n hi)(l:n<=10000000)(h:Q (ratD (if p < lo then lo else if hi < p then hi else p),.cl)):EvP (F9 [ratD p,ratD lo,ratD hi]) Q:=by
 (walk_at "d");unfold b9;(walk_at "st");(walk_at "w");refine h8 p lo n n _ hp hl (by omega) ?_;(walk_at "w");refine zA6 (λc=>?_) λc=>?_
 .rw [if_pos c] at h;(walk_at "w");exact h
 rw[if_neg c] at h;(walk_at "w");refine h8 hi p n n _ hh hp (by omega) ?_;(walk_at "w");refine zA6 (λc=>?_) λc=>?_
 .rw [if_pos c] at h;(walk_at "w");exact h
 rw[if_neg c] at h;(walk_at "w");exact h
noncomputable def cov (p:Rat):Rat:=if p < 0 then 0 else if 1 < p then 1 else p
theorem h10:WpF F10:=zTS
theorem h11 (p:Rat)(n:Nat)(Q:R->Prop)(hp:RB n p)(l0:1<=n)(l:n<=10000000)(h:Q (ratD (cov p),.cl)):EvP (F11 [ratD p]) Q:=by
 (walk_at "d");unfold b11;(walk_at "st");(walk_at "w");refine h9 p 0 1 n _ hp (zBf.mono l0) (zCc.mono l0) l ?_;(walk_at "w");exact h
theorem zLN (h:RB n p)(l:1<=n):RB n (cov p):=by
 unfold cov;split
 .exact zBf.mono l
 .split
  .exact zCc.mono l
  .exact h
theorem h13:zLh F13:=zOg (nm:=3) (n1:=2) rfl rfl h3
theorem h14:zHQ F14:=zO5 (nt:=4) rfl h4
theorem h16:InkF F16:=zR4 rfl rfl h13 h14
theorem h20:zLe F20:=zLy
theorem h21a:zLj (λa b=>¬ b < a) zTL:=zJv (nu:=8) (ns:=21) rfl h8 λh z=>absurd z h
theorem h21:zLj (λ_ _=>True) F21:=zJv (nu:=8) (ns:=21) rfl h8 λ_ _=>⟨_,rfl,h21a⟩
theorem h22:zLg F22:=zL3 (nd:=5) (nm:=3) (np:=2) (nt:=4) rfl rfl rfl rfl h5 h3 h2 h4
theorem h23:CrF F23:=zS9 true (nn:=21) (nr:=22) rfl rfl h21 h22
theorem h24:CrF F24:=zS9 false (nn:=21) (nr:=22) rfl rfl h21 h22
theorem h25:zIG F25:=zNS (nu:=8) rfl h8
theorem h26:zQd F26:=zPA (na:=25) rfl h25
theorem h27:zLd F27:=zLx (nm:=26) (nu:=23) (nl:=24) (nx:=8) rfl rfl rfl rfl h26 h23 h24 h8
theorem h28:MidF F28:=zRc (nt:=4) (np:=2) (ng:=1) rfl rfl rfl h4 h2
theorem h29:PcF F29:=zTg (nw:=10) (nm:=28) rfl rfl h10 h28
theorem h30:OnF F30:=zTh
theorem h31:zHP F31:=zJY (ns:=27) (np:=29) (no:=30) rfl rfl rfl h27 h29 h30
theorem h32:zNV F32:=zP2 (nm:=3) rfl h3
theorem h33:zLf F33:=zL2 (ng:=0) (nt:=4) (nf:=32) (nm:=3) (nd:=28) rfl rfl rfl rfl rfl h4 h32 h3 h28
theorem h35:AllF F35:=zTH (ns:=20) (np:=31) rfl rfl h20 h31
theorem h36:RowF F36:=zQz (np:=2) (nt:=7) (ng:=0) rfl rfl rfl h2 h7
theorem m34:zIF FM34:=zNB
theorem h39n (Q:R->Prop)(h:Q (ratD 1,.cl)):EvP (F39 [.non]) Q:=by
 (walk_at "d");unfold b39;(walk_at "st");(walk_at "w");refine⟨(.bl true,.cl),rfl,true,rfl,?_⟩;(walk_at "w");exact h
theorem h39 (t:Rat)(Q:R->Prop)(h:Q (ratD t,.cl)):EvP (F39 [ratD t]) Q:=by
 (walk_at "d");unfold b39;(walk_at "st");(walk_at "w");refine⟨(.bl false,.cl),rfl,false,rfl,?_⟩;(walk_at "w");exact h
theorem h46:zTN F46:=zQR
theorem h47:zLb F47:=λi Q h=>zLq h
theorem h50:LowF F50:=zRp
theorem h52:zOQ F52:=zMr (nw:=47) rfl h47
def I255 (i:Int):Prop:=0<=i/\i<=255
structure Kq (O O2:Mem):Prop where
 le:O.length<=O2.length
 kp:∀ x,x < O.length->O2[x]?=O[x]?
theorem zAh :Kq O (O++P):=⟨by rw[qQ];omega,λx hx=>getElem?_append_left hx⟩
theorem zHn :Kq O O:=⟨le_refl _,λ_ _=>rfl⟩
theorem Kq.trans (a:Kq O O2)(b:Kq O2 O9):Kq O O9:=⟨le_trans a.le b.le,λx hx=>(b.kp x (xY hx a.le)).trans (a.kp x hx)⟩
theorem Kq.ll (k:Kq O O2)(e:Ll O n l):Ll O2 n l:=e.keep (k.kp n e.lt.1) λp hp=>k.kp p.1 (e.lt.2 p hp)
theorem Kq.get {n:Nat}(k:Kq O O2)(e:O[n]?=some ws):O2[n]?=some ws:=(k.kp n (zzg e).1).trans e
theorem Kq.set (k:Kq O O2)(h:O.length<=n):Kq O (O2.set n ws):=⟨by rw[length_set];exact k.le,λx hx=>(getElem?_set_ne (by omega)).trans (k.kp x hx)⟩
theorem Kq.app (k:Kq O O2):Kq O (O2++P):=k.trans zAh
theorem zMP (e:Ll O n l):∀ p∈l,p.1≠n:=λp hp z=>by
 have h1:=e.row p hp;rw[z,e.top] at h1;have h2:=xX h1;cases l with
 | nil=>exact absurd hp (by simp)
 | cons q l =>
  cases h3:p.2 with
  | nil=>rw[h3] at h2;cases h2
  | cons d ds=>rw[h3] at h2;cases h2
structure Rw (O:Mem)(n b:Nat)(l:Lp)(rows:List (List D)):Prop where
 ll:Ll O n l
 lo:∀ p∈l,b<=p.1
 top:b<=n
 snd:l.map (λp=>p.2)=rows
theorem Rw.len (e:Rw O n b l rows):l.length=rows.length:=by rw[<- e.snd,qy]
theorem Rw.dr (e:Rw O n b l rows):drW O (.loc n)=some (.lst (rows.map .lst)):=by
 rw[e.ll.dr,<- e.snd,map_map]
 rfl
theorem Rw.keep (e:Rw O n b l rows)(k:Kq O O2):Rw O2 n b l rows:=⟨k.ll e.ll,e.lo,e.top,e.snd⟩
theorem Rw.lt (e:Rw O n b l rows):n < O.length:=e.ll.lt.1
theorem Rw.below (e:Rw O n b l rows)(h:c<=b):Rw O n c l rows:=⟨e.ll,λp hp=>le_trans h (e.lo p hp),le_trans h e.top,e.snd⟩
theorem Rw.at (e:Rw O n b l rows){j:Nat}(h:rows[j]?=some ds):∃ m,l[j]?=some (m,ds):=by
 rw[<- e.snd,getElem?_map] at h;obtain⟨p,h1,h2⟩:=yq.mp h;exact⟨p.1,by rw[h1,<- h2]⟩
theorem zPH (e:Ll O n l)(h:O[r]?=some (ds.map .dat))(hr:r≠n):Ll (O.set n (l.map (λp=>W.loc p.1)++[.loc r])) n (l++[(r,ds)]):=by
 refine⟨?_,λp hp=>?_⟩
 .rw [getElem?_set_self e.lt.1,x8]
  rfl
 .rcases mem_append.mp hp with z | z
  .rw [getElem?_set_ne (Ne.symm (zMP e p z))];exact e.row p z
  .rw [mem_singleton.mp z,getElem?_set_ne (Ne.symm hr)];exact h
theorem zJK {T:Type}{J:Gm}{U:Dm}{nm:Str}{N n b:Nat}{ms:List Nat}{src el:ME}{G:List (Option W)}{O0 O:Mem}{l:Lp}{as:List T}{u v:T->List D}{Q:MR->Prop}(hs:EvP (evSrc J U src ⟨G,O0⟩) λr=>r=(.live n,O))(e:Rw O n b l (as.map u))(hN:(mask none ms G).length=N)(hl:as.length<=100)
  (he:∀ (P:Mem) (m:Nat) (a:T),a∈as->(O++P)[m]?=some ((u a).map .dat)->EvP (evM J U el ⟨mask none ms G++[some (.loc m)],O++P⟩) λr=>r=(.loc (O++P).length,O++P++[(v a).map .dat]))
  (hQ:∀ (P:Mem) (l':Lp),Rw (O++P) (O.length+as.length) O.length l' (as.map v)->Q (.loc (O.length+as.length),O++P)) :
  EvP (evM J U (.comp N ms nm src el) ⟨G,O0⟩) Q:=by
 obtain⟨r,er,rfl⟩:=hs;refine zEg ⟨_,er,?_⟩;have ll:=e.len;rw[qy] at ll;obtain⟨y,s',M,ey,⟨o,p1,p2,p3⟩,p4⟩:=zEt (t:=tgM N) (e:=evM J U el) (src:=.live n) (s:=⟨mask none ms G++[none],O⟩) (l.map λp=>.loc p.1)
  (λj s d=>∃ o:Option W,s=⟨mask none ms G++[o],O++(as.take j).map λa=>(v a).map W.dat⟩/\d=news O.length j/\j<=as.length) (λj s d zy142=>by obtain⟨o,p1,_,_⟩:=zy142;subst p1;exact zAz e.ll.top) (λj w s d ew zz121=>by
   obtain⟨o,p1,p2,p3⟩:=zz121;subst p1 p2;rw[getElem?_map] at ew;obtain⟨p,ep,rfl⟩:=yq.mp ew;have hj:j < as.length:=by rw[<- ll];exact(zzg ep).1
   have ea:as[j]?=some as[j]:=getElem?_eq_getElem hj;have e2:p.2=u as[j]:=by
    have h1:(l.map λp=>p.2)[j]?=some p.2:=by rw[getElem?_map,ep];rfl
    rw[e.snd,getElem?_map,ea] at h1;exact(xX h1).symm
   have mp:=mem_of_getElem? ep;have hr:=e.ll.row p mp;rw[e2] at hr;have lm:(O++(as.take j).map λa=>(v a).map W.dat).length=O.length+j:=by rw[qQ,qy,length_take];omega
   refine⟨by rw[zBw];omega,⟨mask none ms G++[some (.loc p.1)],O++(as.take j).map λa=>(v a).map W.dat⟩,(.loc (O++(as.take j).map λa=>(v a).map W.dat).length,(O++(as.take j).map λa=>(v a).map W.dat)++[(v as[j]).map .dat]),?_,(he _ p.1 as[j] (mem_of_getElem? ea) (zAz hr)).eq,some (.loc p.1),?_,?_,by omega⟩
   .unfold tgM;dsimp only;rw[set_append_right _ _ (by omega),hN,sub_self]
    rfl
   .rw [List.take_add_one,ea,Option.toList_some,x8,q0];rfl
   .rw [zC4,lm]) ⟨none,by rw[List.take_zero,map_nil,append_nil],rfl,zero_le _⟩
 rw[qy,ll] at p1 p2;subst p1;rw[List.take_length] at p4;have e2:y=(news O.length as.length,O++as.map λa=>(v a).map W.dat):=Prod.ext p2 p4.symm;refine⟨y,M,ey,by rw[p2,zBw];omega,?_⟩;rw[e2];have lm:(O++as.map λa=>(v a).map W.dat).length=O.length+as.length:=by rw[qQ,qy]
 dsimp only;rw[lm,q0];have im:∀ p∈(List.range as.length).map (λj=>(O.length+j,((as[j]?).map v).getD [])),∃ j,j < as.length/\∃ a,as[j]?=some a/\p=(O.length+j,v a):=λp hp=>by
  obtain⟨j,hj,rfl⟩:=mem_map.mp hp;have hj:=mem_range.mp hj;exact⟨j,hj,as[j],getElem?_eq_getElem hj,by rw[getElem?_eq_getElem hj];rfl⟩
 refine hQ _ ((List.range as.length).map λj=>(O.length+j,((as[j]?).map v).getD [])) ⟨⟨?_,λp hp=>?_⟩,λp hp=>?_,Nat.le_add_right _ _,?_⟩
 .rw [<- q0,getElem?_append_right (by rw[lm];exact le_refl _),lm,sub_self,map_map]
  rfl
 .obtain ⟨j,hj,a,ea,rfl⟩:=im p hp;dsimp only;rw[<- q0,getElem?_append_left (by rw[lm];omega),getElem?_append_right (by omega),Nat.add_sub_cancel_left,getElem?_map,ea]
  rfl
 .obtain ⟨j,hj,a,ea,rfl⟩:=im p hp;exact Nat.le_add_right _ _
 .rw [map_map];apply ext_getElem?;intro i;rw[getElem?_map,getElem?_map];by_cases q:i < as.length
  .rw [getElem?_range q,getElem?_eq_getElem q];simp[getElem?_eq_getElem q]
  .rw [getElem?_eq_none (by rw[length_range];omega),getElem?_eq_none (by omega)]
   rfl
theorem zQ0 {T:Type}{J:Gm}{U:Dm}{nm:Str}{N m:Nat}{ms:List Nat}{src el:ME}{G:List (Option W)}{O:Mem}{as:List T}{u v:T->D}{Q:MR->Prop}(hs:EvP (evSrc J U src ⟨G,O⟩) λr=>r=(.live m,O))(e:O[m]?=some ((as.map u).map .dat))(hN:(mask none ms G).length=N)(hl:as.length<=100)
  (he:∀ a∈as,EvP (evM J U el ⟨mask none ms G++[some (.dat (u a))],O⟩) λr=>r=(.dat (v a),O)) (hQ:Q (.loc O.length,O++[(as.map v).map .dat])) :
  EvP (evM J U (.comp N ms nm src el) ⟨G,O⟩) Q:=by
 obtain⟨r,er,rfl⟩:=hs;refine zEg ⟨_,er,?_⟩;obtain⟨y,s',M,ey,⟨o,p1,p2⟩,p4⟩:=zEt (t:=tgM N) (e:=evM J U el) (src:=.live m) (s:=⟨mask none ms G++[none],O⟩) ((as.map u).map .dat)
  (λj s d=>∃ o:Option W,s=⟨mask none ms G++[o],O⟩/\d=((as.map v).take j).map W.dat) (λj s d zy143=>by obtain⟨o,q1,_⟩:=zy143;subst q1;exact e) (λj w s d ew zz122=>by
   obtain⟨o,q1,q2⟩:=zz122;subst q1 q2;rw[getElem?_map,getElem?_map] at ew;obtain⟨d1,ew1,rfl⟩:=yq.mp ew;obtain⟨a,ea,rfl⟩:=yq.mp ew1;refine⟨by rw[qy,length_take,qy];omega,⟨mask none ms G++[some (.dat (u a))],O⟩,(.dat (v a),O),?_,(he a (mem_of_getElem? ea)).eq,some (.dat (u a)),rfl,?_⟩
   .unfold tgM;dsimp only;rw[set_append_right _ _ (by omega),hN,sub_self]
    rfl
   .rw [List.take_add_one,getElem?_map,ea,x8]
    rfl) ⟨none,rfl,rfl⟩
 rw[qy,qy] at p2;subst p1;have e2:y=((as.map v).map W.dat,O):=Prod.ext (by rw[p2,take_of_length_le (by rw[qy];exact le_refl _)]) p4.symm;refine⟨y,M,ey,by rw[e2];show ((as.map v).map W.dat).length<=_;rw[qy,qy];omega,?_⟩;rw[e2];exact hQ
def Six (ps:List Pt):Prop:=ps.length<=4/\∀ p∈ps,PB 7 p
theorem zHW {i:Int}(h:i.natAbs<=100):RB 7 (i:Rat):=zHX (zDQ (k:=100) h (by decide)) (by decide)
theorem zO1 (ps:List Pt):noLs (ps.map ptD)=true:=by
 induction ps with
 | nil=>rfl
 | cons p ps ih =>
  show (noL (ptD p)&&noLs (ps.map ptD))=true;rw[ih]
  rfl
theorem idx (e:((rngL 0 n).map W.dat)[j]?=some y):y=.dat (.int (j:Int))/\j < n:=by
 have hj:j < n:=by
  have:=(zzg e).1;rw[qy,zAY] at this;omega
 unfold rngL at e
 simp_all
theorem nrng :((rngL 0 n).map W.dat).length=n:=by rw[qy,zAY]
theorem zAT {O:Mem}{ws:List W}:(O++[ws])[O.length]?=some ws:=by simp
theorem zKv (e:G[i]?=some (some (.fn n x,false)))(el:J.fns[n]?=some (x,F))(h:EvP (evE J a G) λy=>y.2≠.dt/\EvP (F [y.1]) λr=>r.2≠.dt/\Q r):EvP (evE J (.callv i a) G) Q:=by
 obtain⟨y,ey,ny,r,er,nr,q⟩:=h;refine⟨r,?_,q⟩;show zEE J.lm J.fns i _ G=_;unfold zEE;have e3:fnvF J.fns n x [y.1]=some r:=by unfold fnvF;rw[el];exact(if_pos rfl).trans er
 simp_all
def CV (f d d':D):Prop:=∀ (G:Dst) (i j:Nat) (Q:R->Prop),G[i]?=some (some (f,false))->G[j]?=some (some (d,false))->Q (d',.cl)->EvP (evE GL3 (.callv i (.var j)) G) Q
theorem zUK (el:GL3.fns[n]?=some (x,F))(h:∀ Q:R->Prop,Q (d',.cl)->EvP (F [d]) Q):CV (.fn n x) d d':=λG i j Q e1 e2 q =>
 zKv e1 el (zAH e2 ⟨(λz=>nomatch z),h _ ⟨(λz=>nomatch z),q⟩⟩)
theorem zLK (el:GL3.lm[J]?=some (L,FL))(h:∀ Q:R->Prop,Q (d',.cl)->EvP (FL (d::dl)) Q):CV (.lam J L dl) d d':=λG i j Q e1 e2 q =>
 zMv e1 el (zAH e2 ⟨(λz=>nomatch z),h _ ⟨(λz=>nomatch z),q⟩⟩)
theorem m40 {f:D}(hf:noL f=true){T:Type}{rows:List (List T)}{u v:T->D}{n b:Nat}{O:Mem}{l:Lp}{Q:MR->Prop}(e:Rw O n b l (rows.map (List.map u)))(hl:rows.length<=100)(hr:∀ qs∈rows,qs.length<=100/\∀ q∈qs,CV f (u q) (v q)/\noL (v q)=true)
  (hQ:∀ (P:Mem) (l':Lp),Rw (O++P) (O.length+rows.length) O.length l' (rows.map (List.map v))->Q (.loc (O.length+rows.length),O++P)):EvP (FM40 [.loc n,.dat f] O) Q:=by
 refine zCZ rfl (by decide) ?_;unfold mb40;show EvP (evSs' GL3 D3 _ ⟨[some (.loc n),some (.dat f)],O⟩) _;refine zAc (zCx (zJK (as:=rows) (u:=List.map u) (v:=List.map v) (zDA (zAW rfl ⟨n,rfl,rfl⟩)) e rfl hl (λP m qs hq em=>?_) λP l' R'=>zGy (hQ P l' R')));show EvP (evM GL3 D3 _ ⟨[some (.loc n),some (.dat f),some (.loc m)],O++P⟩) _;obtain⟨h1,h2⟩:=hr qs hq;refine zQ0 (as:=qs) (u:=u) (v:=v) (zDA (zAW rfl ⟨m,rfl,rfl⟩)) em rfl h1 (λq mq=>?_) rfl;obtain⟨c1,c2⟩:=h2 q mq;exact zBm rfl (c1 _ 1 3 _ (zAp rfl zA4) (zAp rfl zA4) (zCK c2 rfl))
theorem zGw {T M:Type}{f:T->M}{d:T}:∀ {n:Nat} {l:List T},l.length=n->l.map f=(List.range n).map λi=>f (l.getD i d):=λ{n l} e=>by
 subst e;refine ext_getElem? λi=>?_
 rw[getElem?_map,getElem?_map];by_cases h:i < l.length
 .rw [getElem?_range h,getElem?_eq_getElem h];simp[getD_eq_getElem?_getD,h]
 .rw [getElem?_eq_none (by omega),getElem?_eq_none (by simpa using h)];rfl
structure Fl (w h:Nat)(rs:List (List Pt)):Prop where
 w1:1<=w
 w2:w<=4
 h1:1<=h
 h2:h<=4
 rl:rs.length<=1
 six:∀ ps∈rs,Six ps
theorem Fl.fb (f:Fl w h rs):FlB 7 4 w h rs:=⟨by have:=f.w2;omega,by have:=f.h2;omega,by have:=f.rl;omega,by decide,by decide,f.six⟩
def TabR (w h:Nat)(rs:List (List Pt))(T:List (List Rat)):Prop:=(T.length=h/\∀ qs∈T,qs.length=w/\∀ q∈qs,RB 220900 q)/\∃ zs,ZOk F35 F32 F33 F36 w h (zBk rs) zs λr=>(T.getD r []).map ratD
def tabR (w h:Nat)(rs:List (List Pt)):List (List Rat):=Classical.epsilon (TabR w h rs)
theorem zFB (f:Fl w h rs):TabR w h rs (tabR w h rs):=by
 have w2:=f.w2;have h2:=f.h2;have m:=Nat.mul_le_mul f.rl (Nat.mul_le_mul_left 4 (show w+h+4<=12 by omega));generalize e:rs.length*(4*(w+h+4))=M at m;have k:=Nat.mul_le_mul (show w+1<=5 by omega) (show M*(48*7+161)+2<=30000 by omega);exact Classical.epsilon_spec (zQf h35 h32 h33 h36 f.fb (by rw[e];omega) (by rw[e];omega))
theorem zDc (f:Fl w h rs):(tabR w h rs).length=h:=(zFB f).1.1
theorem zC8 (f:Fl w h rs):∀ qs∈tabR w h rs,qs.length<=100/\∀ q∈qs,RB 220900 q:=λqs hq=>by
 have:=(zFB f).1.2 qs hq;exact⟨by have:=f.w2;omega,this.2⟩
theorem zTZ (f:Fl w h rs)(dr:drW O x=some (zBk rs))(hQ:∀ (P:Mem) (m:Nat) (l:Lp),Rw (O++P) m O.length l ((tabR w h rs).map (List.map ratD))->Q (.loc m,O++P)):EvP (FM37 [.dat (.int (w:Int)),.dat (.int (h:Int)),x] O) Q:=by
 obtain⟨⟨tl,_⟩,zs,ok⟩:=zFB f;refine zJI (na:=35) (nf:=32) (nr:=33) (nw:=36) (ne:=2) rfl rfl rfl rfl rfl m34 ok dr λP=>?_
 have T:=zRq (O++P) (λr=>((tabR w h rs).getD r []).map ratD) h;rw[q0,q0 O] at T ⊢;refine hQ _ _ _ ⟨T,λp hp=>?_,by rw[qQ];omega,?_⟩
 .obtain ⟨r,hr,rfl⟩:=zKB hp;show O.length<=(O++P).length+r;rw[qQ];omega
 .unfold lpT;rw[map_map,zGw tl]
  rfl
theorem m42 (f:Fl w h rs)(dr:drW O x=some (zBk rs))(hQ:∀ (P:Mem) (m:Nat) (l:Lp),Rw (O++P) m O.length l ((tabR w h rs).map (List.map λq=>ratD (cov q)))->Q (.loc m,O++P)):EvP (FM42 [.dat (.int (w:Int)),.dat (.int (h:Int)),x] O) Q:=by
 refine zCZ rfl (by decide) ?_;unfold mb42;show EvP (evSs' GL3 D5 _ ⟨[some (.dat (.int (w:Int))),some (.dat (.int (h:Int))),some x],O⟩) _;refine zAc (zCx (zCd (F:=FM40) rfl (zAS (zCd (F:=FM37) rfl (zAS (zAW rfl (zAS (zAW rfl (zAS (zAW rfl (zBY ?_)))))))))));refine(show EvP (FM37 [.dat (.int (w:Int)),.dat (.int (h:Int)),x] O) _ from ?_);refine zTZ f dr λP m l R1=>?_
 refine zAS (zBm rfl (zCr (d:=.fn 11 "cover") rfl (zCK rfl (zBY ?_))));refine(show EvP (FM40 [.loc m,.dat (.fn 11 "cover")] (O++P)) _ from ?_);refine m40 (f:=.fn 11 "cover") rfl (rows:=tabR w h rs) (u:=ratD) (v:=λq=>ratD (cov q)) R1 (by rw[zDc f];have:=f.h2;omega) (λqs hq=>⟨(zC8 f qs hq).1,λq mq=>⟨zUK (F:=F11) rfl λQ q1=>h11 q 220900 Q ((zC8 f qs hq).2 q mq) (by decide) (by decide) q1,rfl⟩⟩) λP2 l2 R2=>zGy ?_
 rw[q0] at R2 ⊢;exact hQ _ _ _ (R2.below (by rw[qQ];omega))
theorem zKG (h1:ws.length=np)(h2:np<=nN)
  (h:EvP (gp ⟨ws.map some++List.replicate (nN - np) none,O⟩) λo=>∃ s,o=.nx s/\EvP (ge s) λw=>∃ ds,capD ix s.G=some ds/\noLs ds=true/\EvP (Fg [w.1,.dat (.lam j L ds)] w.2) Q):EvP (lamM Fg j L ix np nN gp ge ws O) Q:=by
 obtain⟨o,e1,s,rfl,w,e2,ds,e3,e4,r,e5,q⟩:=h;refine zCZ h1 h2 ⟨.rt r,?_,q⟩;rw[e1,qx];unfold retM lamE
 simp_all
theorem m43 (f:Fl w h rs)(ht:RB 80 t)(dr:drW O x=some (zBk rs))(hQ:∀ (P:Mem) (m:Nat) (l:Lp),Rw (O++P) m O.length l ((tabR w h rs).map (List.map λq=>ratD (cov q*t)))->Q (.loc m,O++P)):EvP (FM43 [.dat (.int (w:Int)),.dat (.int (h:Int)),x,.dat (ratD t)] O) Q:=by
 refine zKG rfl (by decide) ⟨_,rfl,_,rfl,?_⟩;show EvP (evM GL3 D6 me0 ⟨[some (.dat (.int (w:Int))),some (.dat (.int (h:Int))),some x,some (.dat (ratD t))],O⟩) _;unfold me0;refine zCd (F:=FM42) rfl (zAS (zAW rfl (zAS (zAW rfl (zAS (zAW rfl (zBY ?_)))))));refine(show EvP (FM42 [.dat (.int (w:Int)),.dat (.int (h:Int)),x] O) _ from ?_);refine m42 f dr λP m l R1=>⟨[ratD t],rfl,rfl,?_⟩
 refine m40 (f:=.lam 0 L0 [ratD t]) rfl (rows:=tabR w h rs) (u:=λq=>ratD (cov q)) (v:=λq=>ratD (cov q*t)) R1 (by rw[zDc f];have:=f.h2;omega) (λqs hq=>⟨(zC8 f qs hq).1,λq mq=>⟨zLK (FL:=FL0) rfl λQ q1=>?_,rfl⟩⟩) λP2 l2 R2=>?_
 .refine zHm rfl rfl ?_;show EvP (evE G58 lb0 [some (ratD (cov q),false),some (ratD t,false)]) _;unfold lb0;(walk_at "w");refine h4 (cov q) t 220900 80 _ (zLN ((zC8 f qs hq).2 q mq) (by decide)) ht (by decide) ?_;(walk_at "w");exact q1
 rw[q0] at R2 ⊢;exact hQ _ _ _ (R2.below (by rw[qQ];omega))
abbrev zHB (a:Nat) (ink:D) (t:Rat):W:=.obj "Fill" ["shape","ink","strength"] [.loc a,.dat ink,.dat (ratD t)]
theorem m38 (e:Rw O n b l rows)(hl:rows.length<=100)(hn:∀ ds∈rows,noLs ds=true)(hQ:∀ (P:Mem) (m:Nat) (l':Lp),Rw (O++P) m O.length l' rows->Q (.loc m,O++P)):EvP (FM38 [.loc n] O) Q:=by
 refine zCZ rfl (by decide) ?_;unfold mb38;show EvP (evSs' GL3 D2 _ ⟨[some (.loc n)],O⟩) _;have e':Rw O n b l (rows.map id):=by rw[List.map_id];exact e
 refine zAc (zCx (zJK (as:=rows) (u:=id) (v:=id) (zDA (zAW rfl ⟨n,rfl,rfl⟩)) e' rfl hl (λP m ds hd em=>?_) λP l' R'=>zGy (hQ P _ l' (by rw[List.map_id] at R';exact R'))));exact zBm rfl (zFb (zAH (zAp rfl (zDi em)) (zI6 (zIs (hn ds hd) rfl))))
def StO (o:D)(t:Rat):Prop:=(o=.non/\t=1)\/o=ratD t
theorem zJA (h:StO o t)(q:Q (ratD t,.cl)):EvP (F39 [o]) Q:=by
 rcases h with ⟨rfl,rfl⟩ | rfl
 .exact h39n Q q
 .exact h39 t Q q
theorem zTo (e:Rw O n b l rows)(hl:rows.length<=100)(hn:∀ ds∈rows,noLs ds=true)(ho:StO o t)(hQ:∀ (P:Mem) (m:Nat) (l':Lp),Rw (O++P) m O.length l' rows->Q (zHB m ink t,O++P)):EvP (zE4 [.loc n,.dat ink,.dat o] O) Q:=by
 refine zG2 rfl rfl ?_;show EvP (zD0 [("shape",evM GL3 D8 (.call 4 "own_shape" (.cons (.var 1) .nil))),("ink",evM GL3 D8 (.var 2)),("strength",evM GL3 D8 (.pur (.call 39 "strength_or_one" (.cons (.var 3) .nil))))] ⟨[none,some (.loc n),some (.dat ink),some (.dat o)],O⟩) _;refine zCo (zCd (F:=FM38) rfl (zAS (zAW rfl (zBY ?_))));refine m38 e hl hn λP m l' R'=>?_
 refine zCo (zAW rfl (zCo (zBm rfl (zAI rfl (zAG (zAH (zAp rfl zA4) (n_cl (zAj ?_))))))));exact zJA ho (n_cl (zCK rfl (zKK (hQ P m l' R'))))
def zP0 (F:MF)(ob:W)(w h:Nat)(O:Mem)(v:List (List D)):Prop:=∀ Q:MR->Prop,(∀ (P:Mem) (m:Nat) (l:Lp),Rw (O++P) m O.length l v->Q (.loc m,O++P))->EvP (F [ob,.dat (.int (w:Int)),.dat (.int (h:Int))] O) Q
theorem zUH (f:Fl w h rs)(ht:RB 80 t)(h1:I255 r)(h2:I255 g)(h3:I255 b)(dr:drW O (.loc a)=some (zBk rs)):zP0 zAe (zHB a (inkD r g b) t) w h O ((tabR w h rs).map (List.map λq=>fmD (zId (cov q*t) r g b))):=λQ hQ=>by
 refine zKG rfl (by decide) ?_;show EvP (evS' GL3 D11 (.set 3 _) ⟨[some (zHB a (inkD r g b) t),some (.dat (.int (w:Int))),some (.dat (.int (h:Int))),none],O⟩) _;refine zEQ (zCd (F:=FM43) rfl (zAS (zAW rfl (zAS (zAW rfl (zAS (zPE (zAW rfl ⟨_,_,_,_,rfl,by decide,rfl,zAS (zPE (zAW rfl ⟨_,_,_,_,rfl,by decide,rfl,zBY ?_⟩))⟩))))))));refine(show EvP (FM43 [.dat (.int (w:Int)),.dat (.int (h:Int)),.loc a,.dat (ratD t)] O) _ from ?_);refine m43 f ht dr λP m l R1=>⟨_,rfl,?_⟩
 (walk_at "s");refine zAW rfl ⟨[.obj "Fill" ["ink","strength"] [inkD r g b,ratD t]],rfl,rfl,?_⟩;refine m40 (f:=.lam 1 L1 [.obj "Fill" ["ink","strength"] [inkD r g b,ratD t]]) rfl (rows:=tabR w h rs) (u:=λq=>ratD (cov q*t)) (v:=λq=>fmD (zId (cov q*t) r g b)) R1 (by rw[zDc f];have:=f.h2;omega) (λqs hq=>⟨(zC8 f qs hq).1,λq mq=>⟨zLK (FL:=FL1) rfl λQ q1=>?_,rfl⟩⟩) λP2 l2 R2=>?_
 .refine zHm rfl rfl ?_;show EvP (evE GL0 lb1 [some (ratD (cov q*t),false),some (.obj "Fill" ["ink","strength"] [inkD r g b,ratD t],false)]) _;unfold lb1;refine zAI rfl (zAG (zAH rfl (n_cl (zAG (zKu (zAH rfl ⟨_,_,_,_,rfl,by decide,rfl,n_cl (zAj ?_)⟩))))));refine h16 (cov q*t) r g b 4000081 _ ((zA0 (zLN ((zC8 f qs hq).2 q mq) (by decide)) ht).mono (by decide)) (by decide) h1 h2 h3 ?_;exact n_cl q1
 rw[q0] at R2 ⊢;exact hQ _ _ _ (R2.below (by rw[qQ];omega))
theorem idxs :∀ x∈rngL 0 n,∃ k:Nat,x=.int (k:Int)/\k < n:=λx hx=>by
 obtain⟨k,rfl,k0,k1⟩:=zFI hx;exact⟨k.toNat,by rw[show ((k.toNat:Nat):Int)=k by omega],by omega⟩
abbrev fsD (T:List (List (List Rat))):D:=.lst (T.map λr=>.lst (r.map rsD))
theorem h58 (T:List (List (List Rat)))(Q:R->Prop)(hl:T.length<=100)(hs:∀ r∈T,r.length<=100)(hQ:Q (.bl true,.cl)):EvP (F58 [fsD T,fsD T]) Q:=by
 (walk_at "d");unfold b58;(walk_at "st");refine zAF (zD6 (zKp (zKq (zHu (zKt (zAH rfl (zPN (x_bl (x_bl (cb_f ?_))))))))));refine zKr (zDS (zBR (zAH rfl (zEL (zBR (zAH rfl (zEL ?_)))))));refine zQU (x_bl (zLR (zDU rfl (zBZ (k_nx ?_)))));refine zAF (zCI (zIM (zBR (zAH rfl (zEL ⟨_,rfl,by rw[qy];omega,?_⟩)))));rw[qy,toNat_natCast];have at1:∀ {i:Nat} {r:List (List Rat)},T[i]?=some r->atI (T.map λr=>D.lst (r.map rsD)) (i:Int)=some (.lst (r.map rsD)):=λ{i r} e=>zBT (by rw[getElem?_map,e];rfl)
 refine zCg (λxs G=>(∃ a b,G=[some (fsD T,false),some (fsD T,false),a,b])/\∀ x∈xs,∃ k:Nat,x=.int (k:Int)/\k < T.length) ?_ ?_ _ _ ⟨⟨none,none,rfl⟩,idxs⟩
 .rintro x xs G ⟨⟨a,b,rfl⟩,hk⟩;obtain⟨i,rfl,hi⟩:=hk x xq;have e1:T[i]?=some T[i]:=getElem?_eq_getElem hi;have hr:=hs _ (mem_of_getElem? e1);generalize T[i]=r at e1 hr;refine⟨_,rfl,?_⟩;(walk_at "s");refine zAF (zD6 (zKp (zKq (zHu (zKt (zBF (zAH rfl (zAH rfl (zA3 (at1 e1) (zPN (x_bl (x_bl (cb_f ?_)))))))))))));refine zKr (zDS (zBR (zBF (zAH rfl (zAH rfl (zA3 (at1 e1) (zEL (zBR (zBF (zAH rfl (zAH rfl (zA3 (at1 e1) (zEL ?_)))))))))))));refine zQU (x_bl (zLR (zDU rfl (zBZ (k_nx ?_)))));refine zAF (zCI (zIM (zBR (zBF (zAH rfl (zAH rfl (zA3 (at1 e1) (zEL ⟨_,rfl,by rw[qy];omega,?_⟩))))))));rw[qy,toNat_natCast];have at2:∀ {j:Nat} {p:List Rat},r[j]?=some p->atI (r.map rsD) (j:Int)=some (rsD p):=λ{j p} e=>zBT (by rw[getElem?_map,e];rfl)
  refine zCg (λys G=>(∃ b,G=[some (fsD T,false),some (fsD T,false),some (.int (i:Int),false),b])/\∀ x∈ys,∃ k:Nat,x=.int (k:Int)/\k < r.length) ?_ ?_ _ _ ⟨⟨b,rfl⟩,idxs⟩
  .rintro y ys G ⟨⟨b,rfl⟩,hj⟩;obtain⟨j,rfl,hj2⟩:=hj y xq;have e2:r[j]?=some r[j]:=getElem?_eq_getElem hj2;generalize r[j]=p at e2;refine⟨_,rfl,?_⟩;(walk_at "s");refine zAF (zD6 (zHu (zAI rfl (zAG (zBF (zBF (zAH rfl (zAH rfl (zA3 (at1 e1) (zAH rfl (zA3 (at2 e2) (n_cl (zAG (zBF (zBF (zAH rfl (zAH rfl (zA3 (at1 e1) (zAH rfl (zA3 (at2 e2) (n_cl (zAj ?_))))))))))))))))))))));refine h52 p _ ?_;refine n_cl (x_bl (x_bl (cb_f (zBZ (k_nx (zBZ ?_))))));exact⟨⟨_,rfl⟩,λy hy=>hj y (qJ _ hy)⟩
  .rintro G ⟨⟨b,rfl⟩,_⟩;refine k_nx (zBZ ?_);exact⟨⟨_,_,rfl⟩,λy hy=>hk y (qJ _ hy)⟩
 .rintro G ⟨⟨a,b,rfl⟩,_⟩;refine k_nx ?_;(walk_at "w");exact hQ
theorem zOd (top:O[n]?=some (news m rows.length))(row:∀ (i:Nat) ds,rows[i]?=some ds->O[m+i]?=some (ds.map .dat))(hb:b<=n)(hm:b<=m):∃ l,Rw O n b l rows:=by
 have im:∀ p∈(List.range rows.length).map (λj=>(m+j,(rows[j]?).getD [])),∃ j ds,rows[j]?=some ds/\p=(m+j,ds):=λp hp=>by
  obtain⟨j,hj,rfl⟩:=mem_map.mp hp;have hj:=mem_range.mp hj;exact⟨j,rows[j],getElem?_eq_getElem hj,by rw[getElem?_eq_getElem hj];rfl⟩
 refine⟨(List.range rows.length).map λj=>(m+j,(rows[j]?).getD []),⟨by rw[map_map];exact top,λp hp=>?_⟩,λp hp=>?_,hb,?_⟩
 .obtain ⟨j,ds,e,rfl⟩:=im p hp;exact row j ds e
 .obtain ⟨j,ds,e,rfl⟩:=im p hp;exact le_trans hm (Nat.le_add_right _ _)
 .rw [map_map];apply ext_getElem?;intro i;rw[getElem?_map];by_cases q:i < rows.length
  .rw [getElem?_range q,getElem?_eq_getElem q];simp[getElem?_eq_getElem q]
  .rw [getElem?_eq_none (by rw[length_range];omega),getElem?_eq_none (by omega)]
   rfl
theorem zJO (rs:List (List Pt)):D.lst ((rs.map λps=>ps.map ptD).map .lst)=zBk rs:=by
 unfold zBk;rw[map_map]
 rfl
theorem Rw.shape (e:Rw O n b l (rs.map λps=>ps.map ptD)):drW O (.loc n)=some (zBk rs):=by rw[e.dr,zJO]
theorem zMs {rs:List (List Pt)}:∀ ds∈rs.map (λps=>ps.map ptD),noLs ds=true:=λds hd=>by
 obtain⟨ps,_,rfl⟩:=mem_map.mp hd;exact zO1 ps
theorem h12:zOR F12:=zNK (n1:=2) (n0:=0) rfl rfl
theorem h15:zQb F15:=zOb (nm:=14) (np:=2) rfl rfl h14 h2
theorem h17:zTI F17:=zPL (nt:=4) (ns:=15) rfl rfl h4 h15
theorem h18:MixF F18:=zRb (np:=2) (nr:=13) (nt:=4) (nm:=14) rfl rfl rfl rfl h2 h13 h4 h14
theorem h19:zOS F19:=zNR (nm:=14) (nr:=13) rfl rfl h14 h13
theorem h51:zEM F51:=zMM (nr:=50) rfl h50
theorem crng {n:Nat}(P:Nat->Mem->List W->Prop)(hs:EvP (evM J U a ⟨G,O⟩) λr=>r=(.dat (.int (n:Int)),O))(hN:(mask none ms G).length=N)(hl:n<=100)(h0:P 0 O [])(hd:∀ j O1 d,P j O1 d->d.length=j)
  (step:∀ j O1 d,j < n->P j O1 d->EvP (evM J U el ⟨mask none ms G++[some (.dat (.int (j:Int)))],O1⟩) λr=>P (j+1) r.2 (d++[r.1])) (hQ:∀ O1 d,P n O1 d->Q (.loc O1.length,O1++[d])):EvP (evM J U (.comp N ms nm (.rng a) el) ⟨G,O⟩) Q:=by
 obtain⟨r,er,rfl⟩:=hs;refine zEg (zC9 ⟨_,er,_,rfl,by omega,?_⟩);dsimp only;rw[toNat_natCast];obtain⟨y,s',M,ey,⟨o,p1⟩,p4⟩:=zEt (t:=tgM N) (e:=evM J U el) (src:=.items ((rngL 0 n).map .dat)) (s:=⟨mask none ms G++[none],O⟩) ((rngL 0 n).map .dat) (λj s d=>∃ o:Option W,s.G=mask none ms G++[o]/\P j s.O d) (λ_ _ _ _=>rfl) (λj w s d ew zz123=>by
   obtain⟨o,q1,q2⟩:=zz123;obtain⟨rfl,hj⟩:=idx ew;obtain⟨r,e1,q3⟩:=step j s.O d hj q2;refine⟨by rw[hd j _ _ q2];omega,⟨mask none ms G++[some (.dat (.int (j:Int)))],s.O⟩,r,?_,e1,_,rfl,q3⟩;unfold tgM;rw[q1,set_append_right _ _ (by omega),hN,sub_self]
   rfl) ⟨none,rfl,h0⟩
 rw[nrng] at p1;obtain⟨_,p2⟩:=p1;refine⟨y,M,ey,by rw[hd n _ _ p2];omega,?_⟩;rw[<- p4];exact hQ _ _ p2
abbrev rT (w:Nat) (L:Nat->Nat->Fm) (j:Nat):List D:=(List.range w).map λi=>fmD (L j i)
abbrev mT (w h:Nat) (L:Nat->Nat->Fm):List (List D):=(List.range h).map (rT w L)
structure TB (n w h:Nat)(L:Nat->Nat->Fm):Prop where
 b:∀ j i,j < h->i < w->FB n (L j i)
theorem TB.mono (t:TB m w h L)(l:m<=n):TB n w h L:=⟨λj i hj hi=>(t.b j i hj hi).mono l⟩
theorem zQ3 (hi:i < w):atI (rT w L j) (i:Int)=some (fmD (L j i)):=zBT (by rw[getElem?_map,getElem?_range hi];rfl)
theorem zPF (hj:j < h):atI ((mT w h L).map D.lst) (j:Int)=some (.lst (rT w L j)):=zBT (by rw[getElem?_map,getElem?_map,getElem?_range hj];rfl)
theorem rrow {n:Nat}(hs:EvP (evM J U a ⟨G,O⟩) λr=>r=(.dat (.int (n:Int)),O))(hN:(mask none ms G).length=N)(hl:n<=100)
  (he:∀ j,j < n->EvP (evM J U el ⟨mask none ms G++[some (.dat (.int (j:Int)))],O⟩) λr=>r=(.dat (v j),O)) (hQ:Q (.loc O.length,O++[((List.range n).map v).map .dat])):EvP (evM J U (.comp N ms nm (.rng a) el) ⟨G,O⟩) Q:=by
 refine crng (λj O1 d=>O1=O/\d=((List.range j).map v).map .dat) hs hN hl ⟨rfl,rfl⟩ (λj O1 d h=>by rw[h.2];simp) (λj O1 d hj h=>?_) λO1 d h=>by rw[h.1,h.2];exact hQ
 obtain⟨rfl,rfl⟩:=h;obtain⟨r,e,rfl⟩:=he j hj;exact⟨_,e,rfl,by rw[range_succ,x8,x8];rfl⟩
def zGi (O:Mem)(b:Nat)(v:Nat->List D)(j:Nat)(O1:Mem):Prop:=Kq O O1/\∃ l,Rw O1 b O.length l ((List.range j).map v)
theorem zGi.snoc (h:zGi O b v j O1):∃ l:Lp,O1[b]?=some (l.map λp=>W.loc p.1)/\l.length=j/\zGi O b v (j+1) ((O1++[(v j).map W.dat]).set b (l.map (λp=>W.loc p.1)++[W.loc O1.length])):=by
 obtain⟨k,l,R⟩:=h;have lt:=R.lt;refine⟨l,R.ll.top,by rw[R.len];simp,k.app.set R.top,l++[(O1.length,v j)],⟨zPH (R.keep zAh).ll zAT (by omega),λp hp=>?_,R.top,?_⟩⟩
 .rcases mem_append.mp hp with z | z
  .exact R.lo p z
  .rw [mem_singleton.mp z];exact k.le
 .rw [x8,R.snd,range_succ,x8];rfl
theorem zGi.nil :zGi O O.length v 0 (O++[[]]):=⟨zAh,[],⟨zAT,λp hp=>absurd hp (by simp)⟩,λp hp=>absurd hp (by simp),le_refl _,rfl⟩
abbrev flK (F:MF) (ob:W) (w h:Nat) (O:Mem) (L:Nat->Nat->Fm):Prop:=∀ Q:MR->Prop,(∀ (O1:Mem) (m:Nat) (l:Lp),Kq O O1->Rw O1 m O.length l (mT w h L)->Q (.loc m,O1))->EvP (F [ob,.dat (.int (w:Int)),.dat (.int (h:Int))] O) Q
noncomputable def jT (L C:Nat->Nat->Fm):Nat->Nat->Fm:=λj i=>jn (L j i) (C j i)
theorem TB.jn (a:TB m w h L)(b:TB n w h C):TB (m+(n+m)+1) w h (jT L C):=⟨λj i hj hi=>zUG (a.b j i hj hi) (b.b j i hj hi)⟩
theorem m41 {b1 b2:Nat}(R1:Rw O n1 b1 l1 (mT w h L))(R2:Rw O n2 b2 l2 (mT w h C))(t1:TB p w h L)(t2:TB q w h C)(l:p+q<=10000000)(hw:w<=10)(hh:h<=10)
  (hQ:∀ (O1:Mem) (m:Nat) (l:Lp),Kq O O1->Rw O1 m O.length l (mT w h (jT L C))->Q (.loc m,O1)):EvP (FM41 [.loc n1,.loc n2,.dat (.fn 17 "joined")] O) Q:=by
 refine zCZ rfl (by decide) ?_;unfold mb41;show EvP (evSs' GL3 D4 _ ⟨[some (.loc n1),some (.loc n2),some (.dat (.fn 17 "joined")),none,none],O⟩) _;refine zAc (zEQ (zPD (zBY ⟨zero_le _,zCY ?_⟩)));(walk_at "s");have dr1:∀ {O1},Kq O O1->drW O1 (.loc n1)=some (.lst ((mT w h L).map .lst)):=λk=>(R1.keep k).dr
 have dr2:∀ {O1},Kq O O1->drW O1 (.loc n2)=some (.lst ((mT w h C).map .lst)):=λk=>(R2.keep k).dr
 refine zAc (zFD (zC9 (zBm rfl (zBR (zAH (zAp rfl (dr1 zAh)) (zEL (zCK rfl ⟨_,rfl,?_,?_⟩)))))))
 .rw [qy,qy,length_range];omega
 rw[qy,qy,length_range,toNat_natCast];refine zEn (s:=⟨_,_⟩) ((rngL 0 h).map .dat) (λj s=>∃ (o4:Option W) (O1:Mem),s=⟨[some (.loc n1),some (.loc n2),some (.dat (.fn 17 "joined")),some (.loc O.length),o4],O1⟩/\zGi O O.length (rT w (jT L C)) j O1) (λ_ _ _=>rfl) ?_ ?_ ⟨none,_,rfl,zGi.nil⟩
 .rintro j y s ey ⟨o4,O1,rfl,I⟩;obtain⟨rfl,hj⟩:=idx ey;refine⟨_,rfl,?_⟩;dsimp only;(walk_at "s");obtain⟨ls,e1,e2,e3⟩:=I.snoc;have k:=I.1;refine zAc (zHU (zAW rfl (rrow (n:=w) (v:=λi=>fmD (jT L C j i)) ?_ rfl (by omega) (λi hi=>?_) ⟨_,_,rfl,zAz e1,by rw[qy];omega,zCY (zEO ?_)⟩)))
  .refine zBm rfl (zBR (zBF (zAH (zAp rfl (dr1 k)) (zAH (zAp rfl zA4) (zA3 (zPF hj) (zEL (zCK rfl ?_)))))));rw[qy,length_range]
  .show EvP (evM GL3 D4 _ ⟨[some (.loc n1),some (.loc n2),some (.dat (.fn 17 "joined")),some (.loc O.length),some (.dat (.int (j:Int))),some (.dat (.int (i:Int)))],O1⟩) _;refine zBm rfl (zMu (F:=F17) (zAp rfl zA4) rfl (zAG (zBF (zBF (zAH (zAp rfl (dr1 k)) (zAH (zAp rfl zA4) (zA3 (zPF hj) (zAH (zAp rfl zA4) (zA3 (zQ3 hi) (n_cl (zAG (zBF (zBF (zAH (zAp rfl (dr2 k)) (zAH (zAp rfl zA4) (zA3 (zPF hj) (zAH (zAp rfl zA4) (zA3 (zQ3 hi) (n_cl (zAj ?_))))))))))))))))))));exact h17 _ _ p q _ (t1.b j i hj hi) (t2.b j i hj hi) l (n_cl (zCK rfl rfl))
  .dsimp only;exact⟨_,_,rfl,e3⟩
 .rintro s ⟨o4,O1,rfl,k,ls,R⟩;rw[nrng] at R;exact zCY (zAc (zCx (zAW rfl (zGy (hQ _ _ _ k R)))))
structure Tat (O:Mem)(a h:Nat)(v:Nat->List D):Prop where
 top:O[a+h]?=some (news a h)
 row:∀ j,j < h->O[a+j]?=some ((v j).map .dat)
theorem Tat.rw (t:Tat O a h v):∃ l,Rw O (a+h) a l ((List.range h).map v):=by
 refine zOd (by rw[qy,length_range];exact t.top) (λi ds e=>?_) (by omega) (le_refl _);rw[getElem?_map] at e;obtain⟨x,ex,rfl⟩:=yq.mp e;obtain⟨hi,rfl⟩:=zzg ex;rw[List.getElem_range];exact t.row i (by simpa using hi)
theorem tgo {n:Nat}(hs:EvP (evM J U a ⟨G,O⟩) λr=>r=(.dat (.int (n:Int)),O))(hN:(mask none ms G).length=N)(hl:n<=100)
  (he:∀ j O1,j < n->EvP (evM J U el ⟨mask none ms G++[some (.dat (.int (j:Int)))],O1⟩) λr=>r=(.loc O1.length,O1++[(v j).map .dat])) (hQ:∀ (O1:Mem),Kq O O1->Tat O1 O.length n v->Q (.loc (O.length+n),O1)):EvP (evM J U (.comp N ms nm (.rng a) el) ⟨G,O⟩) Q:=by
 refine crng (λj O1 d=>Kq O O1/\O1.length=O.length+j/\d=news O.length j/\∀ i,i < j->O1[O.length+i]?=some ((v i).map .dat)) hs hN hl ⟨zHn,rfl,rfl,λi hi=>absurd hi (by omega)⟩ (λj O1 d h=>by rw[h.2.2.1,zBw]) (λj O1 d hj h=>?_) λO1 d h=>?_
 .obtain ⟨k,e1,rfl,e3⟩:=h;obtain⟨r,e,rfl⟩:=he j O1 hj;refine⟨_,e,k.app,by rw[qQ,e1];rfl,by rw[zC4,e1],λi hi=>?_⟩;by_cases z:i < j
  .exact zAz (e3 i z)
  .obtain rfl:i=j:=by omega
   rw[<- e1];exact zAT
 .obtain ⟨k,e1,rfl,e3⟩:=h;rw[e1];exact hQ _ k.app ⟨by rw[<- e1];exact zAT,λi hi=>zAz (e3 i hi)⟩
theorem m44 (hw:w<=10)(hh:h<=10)(hQ:∀ (O1:Mem) (m:Nat) (l:Lp),Kq O O1->Rw O1 m O.length l (mT w h λ_ _=>clr)->Q (.loc m,O1)):EvP (FM44 [.dat (.int (w:Int)),.dat (.int (h:Int))] O) Q:=by
 refine zCZ rfl (by decide) ?_;unfold mb44;show EvP (evSs' GL3 D7 _ ⟨[some (.dat (.int (w:Int))),some (.dat (.int (h:Int)))],O⟩) _;refine zAc (zCx (tgo (n:=h) (v:=rT w λ_ _=>clr) (zAW rfl rfl) rfl (by omega) (λj O1 hj=>?_) λO1 k T=>by obtain⟨l,R⟩:=T.rw;exact zGy (hQ _ _ _ k R)));refine rrow (n:=w) (v:=λ_=>fmD clr) (zAW rfl rfl) rfl (by omega) (λi hi=>?_) rfl;exact zBm rfl (zAI (F:=F12) rfl (zAj (h12 _ (n_cl (zCK rfl rfl)))))
noncomputable def mbJ (ix:List (Str×Nat)):MT:=.cons (.set 3 (.call 9 "clear_films" (.cons (.var 0) (.cons (.var 1) .nil)))) (.cons (.for1 4 (.it (.var 2)) (.cons (.set 3 (.call 6 "put_together" (.cons (.mth ix "films" (.var 4) (.cons (.var 0) (.cons (.var 1) .nil))) (.cons (.var 3) (.cons (.pur (.glob 4 "joined")) .nil))))) .nil)) (.cons (.ret (.var 3)) .nil))
noncomputable def aT (L:Nat->Nat->Nat->Fm):Nat->Nat->Nat->Fm
 | 0=>λ_ _=>clr
 | k+1=>jT (L k) (aT L k)
theorem aT_b (hb:∀ k,k < N->TB m w h (L k)):∀ k,k<=N->TB (1+k*(2*m+1)) w h (aT L k)
 | 0,_=>⟨λ_ _ _ _=>zSm.mono (Nat.le_add_right _ _)⟩
 | k+1,l=>((hb k l).jn (aT_b hb k (by omega))).mono (by have e:(k+1)*(2*m+1)=k*(2*m+1)+(2*m+1):=Nat.succ_mul k _;omega)
def Disp (U:Dm)(ix:List (Str×Nat))(o:W)(w h:Nat)(O:Mem)(L:Nat->Nat->Fm):Prop:=∃ c n y F,clsW "films" o=some c/\ix.lookup c=some n/\U[n]?=some (y,F)/\spec.lookup y=some (.mth c "films")/\flK F o w h O L
theorem zR3 {os:List W}(e7:U[9]?=some (("clear_films":Str),FM44))(e4:U[6]?=some (("put_together":Str),FM41))(eo:O[nl]?=some os)(hd:∀ k o,os[k]?=some o->∀ O1,Kq O O1->Disp U ix o w h O1 (L k))(hb:∀ k,k < os.length->TB m w h (L k))
  (l:m+(1+os.length*(2*m+1))<=10000000) (hw:w<=10) (hh:h<=10) (hQ:∀ (O1:Mem) (n:Nat) (l:Lp),Kq O O1->Rw O1 n O.length l (mT w h (aT L os.length))->Q (.loc n,O1)):EvP (zAw 3 5 (evSs' GL3 U (mbJ ix)) [.dat (.int (w:Int)),.dat (.int (h:Int)),.loc nl] O) Q:=by
 refine zCZ rfl (by decide) ?_;unfold mbJ;show EvP (evSs' GL3 U _ ⟨[some (.dat (.int (w:Int))),some (.dat (.int (h:Int))),some (.loc nl),none,none],O⟩) _;refine zAc (zEQ (zCd e7 (zAS (zAW rfl (zAS (zAW rfl (zBY ?_)))))));refine(show EvP (FM44 [.dat (.int (w:Int)),.dat (.int (h:Int))] O) _ from ?_);refine m44 hw hh λO4 n1 l1 k1 R1=>zCY ?_
 (walk_at "s");refine zAc (zFD (zDA (zAW rfl ⟨nl,rfl,?_⟩)));refine zEn (s:=⟨_,_⟩) os (λj s=>∃ (o4:Option W) (O1:Mem) (n:Nat) (l:Lp),s=⟨[some (.dat (.int (w:Int))),some (.dat (.int (h:Int))),some (.loc nl),some (.loc n),o4],O1⟩/\Kq O O1/\Rw O1 n O.length l (mT w h (aT L j))) (λj s zz=>?_) ?_ ?_ ⟨none,O4,n1,l1,rfl,k1,R1⟩
 .obtain ⟨_,O1,_,_,rfl,k,_⟩:=zz;exact k.get eo
 .rintro j o s eo' ⟨o4,O1,n,l',rfl,k,R⟩;refine⟨_,rfl,?_⟩;dsimp only;(walk_at "s");obtain⟨c,nF,y,F,d1,d2,d3,d4,d5⟩:=hd j o eo' O1 k;have hj:j < os.length:=(zzg eo').1;refine zAc (zEQ (zCd e4 (zAS (zRm (zAW rfl ⟨c,nF,y,F,d1,d2,d3,d4,zAS (zAW rfl (zAS (zAW rfl (zBY ?_))))⟩)))));refine d5 _ λO2 n2 l2 k2 R2=>?_
  refine zAS (zAW rfl (zAS (zBm rfl (zCr (d:=.fn 17 "joined") rfl (zCK rfl (zBY ?_))))));refine(show EvP (FM41 [.loc n2,.loc n,.dat (.fn 17 "joined")] O2) _ from ?_);have:=mul_le_mul_right (2*m+1) (Nat.le_of_lt hj);refine m41 R2 (R.keep k2) (hb j hj) (aT_b hb j (Nat.le_of_lt hj)) (by omega) hw hh λO9 n3 l3 k3 R3=>zCY (zEO ?_)
  exact⟨_,_,n3,l3,rfl,(k.trans k2).trans k3,R3.below (k.trans k2).le⟩
 .rintro s ⟨o4,O1,n,l',rfl,k,R⟩;exact zCY (zAc (zCx (zAW rfl (zGy (hQ _ _ _ k R)))))
noncomputable def meJ (n:Nat):ME:=.call n "joined_films" (.cons (.var 1) (.cons (.var 2) (.cons (.fld (.var 0) "layers") .nil)))
abbrev objW (c:Str) (nl:Nat) (t:Rat):W:=.obj c ["layers","strength"] [.loc nl,.dat (ratD t)]
theorem zR2 {g:Fm->Fm}(en:U[n]?=some (("joined_films":Str),FJ))(oc:(c,("layers":Str),(none:Option Bool))∈GL3.ob)(el:GL3.lm[J]?=some (L,FL))(hg:∀ j i,j < h->i < w->∀ Q:R->Prop,Q (fmD (g (C j i)),.cl)->EvP (FL [fmD (C j i),.obj c ["strength"] [ratD t]]) Q)
  (hw:w<=10) (hh:h<=10) (hJ:∀ Q:MR->Prop,(∀ (O1:Mem) (n:Nat) (l:Lp),Kq O O1->Rw O1 n O.length l (mT w h C)->Q (.loc n,O1))->EvP (FJ [.dat (.int (w:Int)),.dat (.int (h:Int)),.loc nl] O) Q):flK (lamM FM40 J L [0] 3 3 (zDa GL3 U .nil) (evM GL3 U (meJ n))) (objW c nl t) w h O (λj i=>g (C j i)):=λQ hQ=>by
 refine zKG rfl (by decide) ⟨_,rfl,_,rfl,?_⟩;show EvP (evM GL3 U (meJ n) ⟨[some (objW c nl t),some (.dat (.int (w:Int))),some (.dat (.int (h:Int)))],O⟩) _;refine zCd en (zAS (zAW rfl (zAS (zAW rfl (zAS (zPE (zAW rfl ⟨_,_,_,_,rfl,oc,rfl,zBY ?_⟩)))))));refine hJ _ λO4 n1 l1 k1 R1=>⟨[.obj c ["strength"] [ratD t]],rfl,rfl,?_⟩
 have e:∀ u:Fm->D,((List.range h).map λj=>(List.range w).map λi=>C j i).map (List.map u)=(List.range h).map λj=>(List.range w).map λi=>u (C j i):=λu=>by rw[map_map];exact map_congr_left λj _=>map_map
 rw[show mT w h C=_ from (e fmD).symm] at R1;refine m40 (f:=.lam J L [.obj c ["strength"] [ratD t]]) rfl (u:=fmD) (v:=λf=>fmD (g f)) R1 (by rw[qy,length_range];omega) (λqs hq=>?_) λP l2 R2=>?_
 .obtain ⟨j,hj,rfl⟩:=mem_map.mp hq;refine⟨by rw[qy,length_range];omega,λq mq=>?_⟩;obtain⟨i,hi,rfl⟩:=mem_map.mp mq;exact⟨zLK el (hg j i (mem_range.mp hj) (mem_range.mp hi)),rfl⟩
 .rw [e λf=>fmD (g f)] at R2;exact hQ _ _ _ k1.app (R2.below k1.le)
theorem gJ (hf:FB m f)(ht:RB 80 t)(l:m+80<=10000000)(q:Q (fmD (mx f t),.cl)):EvP (FL2 [fmD f,.obj "Join" ["strength"] [ratD t]]) Q:=by
 refine zHm rfl rfl ?_;show EvP (evE GL1 lb2 [some (fmD f,false),some (.obj "Join" ["strength"] [ratD t],false)]) _;unfold lb2;refine zAI rfl (zAG (zAH rfl (n_cl (zAG (zKu (zAH rfl ⟨_,_,_,_,rfl,by decide,rfl,n_cl (zAj ?_)⟩))))));exact h18 f t m 80 _ hf ht l (n_cl q)
theorem gG (hf:FB m f)(ht:RB 80 t)(l:m+80<=10000000)(q:Q (fmD (al f t),.cl)):EvP (FL3 [fmD f,.obj "Group" ["strength"] [ratD t]]) Q:=by
 refine zHm rfl rfl ?_;show EvP (evE GL2 lb3 [some (fmD f,false),some (.obj "Group" ["strength"] [ratD t],false)]) _;unfold lb3;refine zAI rfl (zAG (zAH rfl (n_cl (zAG (zKu (zAH rfl ⟨_,_,_,_,rfl,by decide,rfl,n_cl (zAj ?_)⟩))))));exact h19 f t m 80 _ hf ht l (n_cl q)
theorem zTn (e:O[n]?=some ws)(ho:StO o t)(hQ:Q (objW "Join" O.length t,O++[ws])):EvP (zDL [.loc n,.dat o] O) Q:=by
 refine zG2 rfl rfl ?_;show EvP (zD0 [("layers",evM GL3 D9 (.lcp (.var 1))),("strength",evM GL3 D9 (.pur (.call 39 "strength_or_one" (.cons (.var 2) .nil))))] ⟨[none,some (.loc n),some (.dat o)],O⟩) _;refine zCo (zRn (zAW rfl ⟨n,ws,rfl,e,?_⟩));refine zCo (zBm rfl (zAI rfl (zAG (zAH (zAp rfl zA4) (n_cl (zAj ?_))))));exact zJA ho (n_cl (zCK rfl (zKK hQ)))
theorem zRo (e:O[n]?=some ws)(ho:StO o t)(hQ:Q (objW "Group" O.length t,O++[ws])):EvP (zCt [.loc n,.dat o] O) Q:=by
 refine zG2 rfl rfl ?_;show EvP (zD0 [("layers",evM GL3 D10 (.lcp (.var 1))),("strength",evM GL3 D10 (.pur (.call 39 "strength_or_one" (.cons (.var 2) .nil))))] ⟨[none,some (.loc n),some (.dat o)],O⟩) _;refine zCo (zRn (zAW rfl ⟨n,ws,rfl,e,?_⟩));refine zCo (zBm rfl (zAI rfl (zAG (zAH (zAp rfl zA4) (n_cl (zAj ?_))))));exact zJA ho (n_cl (zCK rfl (zKK hQ)))
abbrev qT (w h:Nat) (rs:List (List Pt)) (j i:Nat):Rat:=cov (((tabR w h rs).getD j []).getD i 0)
theorem zI4 (f:Fl w h rs)(hj:j < h):((tabR w h rs).getD j []).length=w/\∀ q∈(tabR w h rs).getD j [],RB 220900 q:=by
 obtain⟨⟨tl,tm⟩,_⟩:=zFB f;rw[getD_eq_getElem?_getD,getElem?_eq_getElem (by omega)];exact tm _ (List.getElem_mem (by omega))
theorem zQk (f:Fl w h rs)(g:Rat->Fm):(tabR w h rs).map (List.map λq=>fmD (g (cov q)))=mT w h λj i=>g (qT w h rs j i):=by
 rw[zGw (zDc f)];exact map_congr_left λj m=>zGw (zI4 f (mem_range.mp m)).1
theorem zTc (f:Fl w h rs)(hj:j < h)(hi:i < w):RB 220900 (qT w h rs j i):=by
 obtain⟨e,r⟩:=zI4 f hj;refine zLN ?_ (by decide);rw[getD_eq_getElem?_getD,getElem?_eq_getElem (by omega)];exact r _ (List.getElem_mem (by omega))
abbrev zP1 (w h:Nat) (rs:List (List Pt)) (t:Rat) (r g b:Int) (j i:Nat):Fm:=zId (qT w h rs j i*t) r g b
theorem zSj (f:Fl w h rs)(ht:RB 80 t)(h1:I255 r)(h2:I255 g)(h3:I255 b):TB 221000 w h (zP1 w h rs t r g b):=⟨λj i hj hi=>(zSl (zA0 (zTc f hj hi) ht) h1 h2 h3).mono (by decide)⟩
theorem zTt (f:Fl w h rs)(ht:RB 80 t)(h1:I255 r)(h2:I255 g)(h3:I255 b)(dr:drW O (.loc a)=some (zBk rs)):flK zAe (zHB a (inkD r g b) t) w h O (zP1 w h rs t r g b):=λQ q=>by
 refine zUH f ht h1 h2 h3 dr Q λP m l R=>q _ _ l zAh ?_
 rw[zQk f λq=>zId (q*t) r g b] at R;exact R
noncomputable def gX (b:Bool)(t:Rat)(f:Fm):Fm:=if b then al f t else mx f t
theorem Rw.range (e:Rw O n b l rows)(k:∀ x,b<=x->x < O.length->O2[x]?=O[x]?):Rw O2 n b l rows :=
 ⟨e.ll.keep (k n e.top e.lt) λp hp=>k p.1 (e.lo p hp) (e.ll.lt.2 p hp),e.lo,e.top,e.snd⟩
theorem zTm :D.lst ((mT w h L).map .lst)=fsD ((List.range h).map λj=>(List.range w).map λi=>[(L j i).k,(L j i).a,(L j i).r,(L j i).g,(L j i).b]):=by
 rw[map_map,fsD,map_map];congr 1;exact map_congr_left λj _=>by show D.lst _=D.lst _;rw[map_map];rfl
theorem zG6 (hw:w<=10)(hh:h<=10)(q:Q (.bl true,.cl)):EvP (F58 [.lst ((mT w h L).map .lst),.lst ((mT w h L).map .lst)]) Q:=by
 rw[zTm];refine h58 _ _ (by rw[qy,length_range];omega) (λr hr=>?_) q;obtain⟨j,_,rfl⟩:=mem_map.mp hr;rw[qy,length_range];omega
theorem zNE {n:Nat}(h:n<=ws.length):cutW ws none (some (n:Int))=ws.take n:=by
 unfold cutW;rw[HT.zFH,HT.zGh,Nat.min_eq_left h]
 rfl
section
variable {w h a m:Nat}{ws:List W}{t:Rat}{O:Mem}{L:Nat->Nat->Nat->Fm}
theorem jgd (hb:TB m w h (aT L ws.length))(ht:RB 80 t)(l:m+80<=10000000)(hw:w<=10)(hh:h<=10)(en:U[n]?=some (("joined_films":Str),FJ))(hJ:∀ Q:MR->Prop,(∀ (O1:Mem) (n:Nat) (l:Lp),Kq O O1->Rw O1 n O.length l (mT w h (aT L ws.length))->Q (.loc n,O1))->EvP (FJ [.dat (.int (w:Int)),.dat (.int (h:Int)),.loc a] O) Q) :
  flK (lamM FM40 2 L2 [0] 3 3 (zDa GL3 U .nil) (evM GL3 U (meJ n))) (objW "Join" a t) w h O (λj i=>gX false t (aT L ws.length j i))/\flK (lamM FM40 3 L3 [0] 3 3 (zDa GL3 U .nil) (evM GL3 U (meJ n))) (objW "Group" a t) w h O (λj i=>gX true t (aT L ws.length j i)) :=
 ⟨zR2 (g:=gX false t) en (by decide +kernel) (FL:=FL2) rfl (λj i hj hi Q q=>gJ (hb.b j i hj hi) ht l q) hw hh hJ,zR2 (g:=gX true t) en (by decide +kernel) (FL:=FL3) rfl (λj i hj hi Q q=>gG (hb.b j i hj hi) ht l q) hw hh hJ⟩
end
structure Bg (O:Mem)(n B:Nat):Prop where
 ex:∃ x y:Int,O[n]?=some [.dat (.int x),.dat (.int y)]/\0<=y/\y<=B
structure Kx (n:Nat)(O O2:Mem):Prop where
 le:O.length<=O2.length
 kp:∀ x,x < O.length->x≠n->O2[x]?=O[x]?
theorem Kx.trans (a:Kx n O O2)(b:Kx n O2 O9):Kx n O O9:=⟨le_trans a.le b.le,λx hx z=>(b.kp x (xY hx a.le) z).trans (a.kp x hx z)⟩
theorem Kq.kx (k:Kq O O2):Kx n O O2:=⟨k.le,λx hx _=>k.kp x hx⟩
theorem Kx.set (k:Kx n O O2):Kx n O (O2.set n ws):=⟨by rw[length_set];exact k.le,λx hx z=>(getElem?_set_ne (Ne.symm z)).trans (k.kp x hx z)⟩
theorem Bg.lt (b:Bg O n B):n < O.length:=by
 obtain⟨_,_,e,_⟩:=b.ex;exact(zzg e).1
theorem Bg.keep (b:Bg O n B)(k:Kq O O2):Bg O2 n B:=by
 obtain⟨x,y,e,h⟩:=b.ex;exact⟨x,y,k.get e,h⟩
theorem zEf {x:Int}(h:0 < m):0<=x.fmod m/\x.fmod m < m:=⟨Int.fmod_nonneg_of_pos x h,Int.fmod_lt_of_pos x h⟩
theorem m49 (b:Bg O n B)(hB:B<=1000)(hm:0 < m)(hQ:∀ (v:Int) (O1:Mem),0<=v->v < m->Kx n O O1->Bg O1 n (B+1)->Q (.dat (.int v),O1)):EvP (FM49 [.loc n,.dat (.int m)] O) Q:=by
 obtain⟨x,y,e,y0,y1⟩:=b.ex;have d:drW O (.loc n)=some (.lst [.int x,.int y]):=zDi (ds:=[.int x,.int y]) e;refine zCZ rfl (by decide) ?_;unfold mb49;show EvP (evSs' GL3 D18 _ ⟨[some (.loc n),some (.dat (.int m)),none],O⟩) _;(walk_at "m");refine⟨λc=>?_,λc=>?_⟩
 ·(walk_at "m");refine zEH (show m≠0 by omega) ?_;(walk_at "m");refine⟨_,_,_,0,rfl,rfl,e,rfl,?_⟩;(walk_at "m");obtain⟨h1,h2⟩:=zEf (x:=x) hm;exact hQ _ _ h1 h2 (Kx.set zHn.kx) ⟨_,y,getElem?_set_self b.lt,by omega,by omega⟩
 ·(walk_at "m");refine zBD (zF3 (by omega)) ?_;(walk_at "m");refine⟨_,_,_,0,rfl,rfl,e,rfl,?_⟩;(walk_at "m");have e1:=getElem?_set_self (l:=O) (a:=[W.dat (.int ((x*48271+7919*y*y+17).fmod 2147483647)),.dat (.int y)]) b.lt;have k1:Kx n O _:=Kx.set (ws:=[W.dat (.int ((x*48271+7919*y*y+17).fmod 2147483647)),.dat (.int y)]) zHn.kx;simp only[List.set_cons_zero];generalize O.set n [W.dat (.int ((x*48271+7919*y*y+17).fmod 2147483647)),.dat (.int y)]=O4 at e1 k1;generalize (x*48271+7919*y*y+17).fmod 2147483647=x1 at e1;have d1:drW O4 (.loc n)=some (.lst [.int x1,.int y]):=zDi (ds:=[.int x1,.int y]) e1;(walk_at "m");refine⟨_,_,_,1,rfl,rfl,e1,rfl,?_⟩;(walk_at "m");have l1:=(zzg e1).1;have e2:=getElem?_set_self (l:=O4) (a:=[W.dat (.int x1),.dat (.int (y+1))]) l1;have d2:drW (O4.set n [W.dat (.int x1),.dat (.int (y+1))]) (.loc n)=some (.lst [.int x1,.int (y+1)]):=zDi (ds:=[.int x1,.int (y+1)]) e2;(walk_at "m");obtain⟨h1,h2⟩:=zEf (x:=(x1*69621).fmod 2147483629) hm;exact hQ _ _ h1 h2 k1.set ⟨x1,y+1,e2,by omega,by omega⟩
theorem m53 (b:Bg O n B)(hB:B<=900)(hQ:∀ (t:Rat) (O1:Mem),RB 80 t->Kx n O O1->Bg O1 n (B+3)->Q (.dat (ratD t),O1)):EvP (FM53 [.loc n] O) Q:=by
 refine zCZ rfl (by decide) ?_;unfold mb53;show EvP (evSs' GL3 D19 _ ⟨[some (.loc n),none,none],O⟩) _;(walk_at "m");refine m49 b (by omega) (by decide) λv1 O4 a1 c1 k1 b1=>?_
 (walk_at "m");refine m49 b1 (by omega) (by decide) λv2 O2 a2 c2 k2 b2=>?_
 (walk_at "m");have K:=k1.trans k2;have b3:Bg O2 n (B+3):=⟨let ⟨x,y,e,h1,h2⟩:=b2.ex;⟨x,y,e,h1,by omega⟩⟩;refine⟨λ_=>?_,λ_=>?_⟩
 ·(walk_at "m");exact hQ 0 _ (zBf.mono (by decide)) K b3
 (walk_at "m");refine⟨λ_=>?_,λ_=>?_⟩
 ·(walk_at "m");exact hQ 1 _ (zCc.mono (by decide)) K b3
 (walk_at "m");refine m49 b2 (by omega) (by omega) λv3 O9 a3 c3 k3 b3=>?_
 (walk_at "m");refine zKF (ds:=[.int v3,.int (1+v1)]) rfl ?_;refine h50 _ _ _ (by omega) ?_;(walk_at "m");exact hQ _ _ (zET (by omega) (zDQ (k:=100) (by omega) (by decide)) (zDQ (k:=100) (by omega) (by decide))) (K.trans k3) b3
theorem Bg.mono (b:Bg O n B)(h:B<=C):Bg O n C:=⟨let ⟨x,y,e,h1,h2⟩:=b.ex;⟨x,y,e,h1,by omega⟩⟩
theorem m54 (b:Bg O n B)(hB:B<=900)(hQ:∀ (r g c:Int) (O1:Mem),I255 r->I255 g->I255 c->Kx n O O1->Bg O1 n (B+4)->Q (.dat (inkD r g c),O1)):EvP (FM54 [.loc n] O) Q:=by
 refine zCZ rfl (by decide) ?_;unfold mb54;show EvP (evSs' GL3 D20 _ ⟨[some (.loc n),none],O⟩) _;(walk_at "m");refine m49 b (by omega) (by decide) λv1 O4 a1 c1 k1 b1=>?_
 (walk_at "m");refine m49 b1 (by omega) (by decide) λv2 O2 a2 c2 k2 b2=>?_
 (walk_at "m");refine zDR zAT (w:=.dat (.int v1)) rfl ?_;(walk_at "m");refine zDR zAT (w:=.dat (.int v2)) rfl ?_;(walk_at "m");refine m49 (b2.keep zAh) (by omega) (by decide) λv3 O9 a3 c3 k3 b3=>?_
 (walk_at "m");refine m49 (b3.keep zAh) (by omega) (by decide) λv4 Z1 a4 c4 k4 b4=>?_
 obtain⟨g,hg,eg⟩:∃ g:Int,I255 g/\atI [W.dat (.int 255),.dat (.int 0),.dat (.int v3)] v4=some (.dat (.int g)):=by
  have cases3:v4=0\/v4=1\/v4=2:=by omega
  rcases cases3 with rfl | rfl | rfl
  .exact ⟨255,⟨by decide,by decide⟩,rfl⟩
  .exact ⟨0,⟨by decide,by decide⟩,rfl⟩
  .exact ⟨_,⟨a3,by omega⟩,rfl⟩
 have n3:=b3.lt;refine zDR ((k4.kp _ (by rw[qQ];exact Nat.lt_succ_self _) (by omega)).trans zAT) eg ?_;(walk_at "m");exact⟨[.int v1,.int v2,.int g],rfl,(hQ _ _ _ _ ⟨a1,by omega⟩ ⟨a2,by omega⟩ hg ((k1.trans k2).trans (zAh.kx.trans (k3.trans (zAh.kx.trans k4)))) b4)⟩
theorem m55 {n B m:Nat}{O:Mem}{Q:MR->Prop}(b:Bg O n B)(hB:B<=900)(hm:m<=10)(hQ:∀ (q:Rat) (O1:Mem),RB 7 q->Kx n O O1->Bg O1 n (B+2)->Q (.dat (ratD q),O1)):EvP (FM55 [.loc n,.dat (.int m)] O) Q:=by
 refine zCZ rfl (by decide) ?_;unfold mb55;show EvP (evSs' GL3 D21 _ ⟨[some (.loc n),some (.dat (.int m)),none],O⟩) _;(walk_at "m");refine m49 (b.keep zAh) (by omega) (by decide) λv1 O4 a1 c1 k1 b1=>?_
 obtain⟨u,u1,u2,eu⟩:∃ u:Int,1<=u/\u<=4/\atI [W.dat (.int 1),.dat (.int 2),.dat (.int 4),.dat (.int 3)] v1=some (.dat (.int u)):=by
  have cases4:v1=0\/v1=1\/v1=2\/v1=3:=by omega
  rcases cases4 with rfl | rfl | rfl | rfl
  .exact ⟨1,by decide,by decide,rfl⟩
  .exact ⟨2,by decide,by decide,rfl⟩
  .exact ⟨4,by decide,by decide,rfl⟩
  .exact ⟨3,by decide,by decide,rfl⟩
 have n3:=b.lt;refine zDR ((k1.kp _ (by rw[qQ];exact Nat.lt_succ_self _) (by omega)).trans zAT) eu ?_;(walk_at "m");refine zBD (zEe (by omega)) ?_;(walk_at "m");have k0:=Int.mul_pos (show 0 < u by omega) (show (0:Int) < m+2 by omega);have k2:u*((m:Int)+2)<=4*12:=Int.mul_le_mul u2 (by omega) (by omega) (by decide);refine m49 b1 (by omega) (by omega) λv2 O2 a2 c2 k3 b2=>?_
 (walk_at "m");refine zKF (ds:=[.int (v2 - u),.int u]) rfl ?_;refine h50 _ _ _ (by omega) ?_;(walk_at "m");exact hQ _ _ (zET (by omega) (zDQ (k:=100) (by omega) (by decide)) (zDQ (k:=100) (by omega) (by decide))) (zAh.kx.trans (k1.trans k3)) b2
theorem m56 {n B w h:Nat}{O:Mem}{Q:MR->Prop}(b:Bg O n B)(hB:B<=900)(hw:w<=10)(hh:h<=10)(hQ:∀ (ps:List Pt) (O1:Mem),Six ps->Kx n O O1->Bg O1 n (B+4)->Q (.loc O1.length,O1++[(ps.map ptD).map .dat])):EvP (FM56 [.loc n,.dat (.int w),.dat (.int h)] O) Q:=by
 refine zCZ rfl (by decide) ?_;unfold mb56;show EvP (evSs' GL3 D22 _ ⟨[some (.loc n),some (.dat (.int w)),some (.dat (.int h)),none,none,none,none],O⟩) _;(walk_at "m");refine m49 b (by omega) (by omega) λv1 O4 a1 c1 k1 b1=>?_
 (walk_at "m");refine m49 b1 (by omega) (by omega) λv2 O2 a2 c2 k2 b2=>?_
 (walk_at "m");refine m49 b2 (by omega) (by omega) λv3 O9 a3 c3 k3 b3=>?_
 (walk_at "m");refine m49 b3 (by omega) (by omega) λv4 Z1 a4 c4 k4 b4=>?_
 (walk_at "m");refine hQ [(((v1 - 1:Int):Rat),((v2 - 1:Int):Rat)),(((v1 - 1+1+v3:Int):Rat),((v2 - 1:Int):Rat)),(((v1 - 1+1+v3:Int):Rat),((v2 - 1+1+v4:Int):Rat)),(((v1 - 1:Int):Rat),((v2 - 1+1+v4:Int):Rat))] _ ⟨by show 4<=4;decide,λp hp=>?_⟩ (((k1.trans k2).trans k3).trans k4) b4;simp only[mem_cons,not_mem_nil,or_false] at hp;rcases hp with rfl | rfl | rfl | rfl<;>exact⟨zHW (by omega),zHW (by omega)⟩
theorem m57 {n B w h:Nat}{O:Mem}{Q:MR->Prop}(b:Bg O n B)(hB:B<=800)(hw:w<=10)(hh:h<=10)(hQ:∀ (O1:Mem) (m:Nat) (l:Lp) (rs:List (List Pt)),Kx n O O1->Bg O1 n (B+20)->Rw O1 m O.length l (rs.map λps=>ps.map ptD)->rs.length<=1->(∀ ps∈rs,Six ps)->Q (.loc m,O1)):EvP (FM57 [.loc n,.dat (.int w),.dat (.int h)] O) Q:=by
 refine zCZ rfl (by decide) ?_;unfold mb57;show EvP (evSs' GL3 D23 _ ⟨[some (.loc n),some (.dat (.int w)),some (.dat (.int h)),none,none,none,none],O⟩) _;(walk_at "m");refine m49 b (by omega) (by decide) λv1 O4 a1 c1 k1 b1=>?_
 have one:∀ (O1:Mem) (m:Nat) (ps:List Pt),O1[m]?=some ((ps.map ptD).map .dat)->O.length<=m->Six ps->Kx n O O1->Bg O1 n (B+20)->Q (.loc O1.length,O1++[[.loc m]]):=λO1 m ps e l s k b'=>by
  refine hQ _ _ [(m,ps.map ptD)] [ps] (k.trans zAh.kx) (b'.keep zAh) ⟨⟨zAT,λp hp=>?_⟩,λp hp=>?_,k.le,rfl⟩ (le_refl _) (by simpa using s)
  .rw [mem_singleton.mp hp];exact zAz e
  .rw [mem_singleton.mp hp];exact l
 (walk_at "m");refine⟨λ_=>?_,λ_=>?_⟩
 ·(walk_at "m");exact hQ _ _ [] [] (k1.trans zAh.kx) ((b1.keep zAh).mono (by omega)) ⟨⟨zAT,by simp⟩,by simp,k1.le,rfl⟩ (by decide) (by simp)
 (walk_at "m");refine⟨λ_=>?_,λ_=>?_⟩
 ·(walk_at "m");refine m56 b1 (by omega) hw hh λps O2 s k2 b2=>?_
  (walk_at "m");have:=(k1.trans k2).le;exact one _ _ ps zAT this s ((k1.trans k2).trans zAh.kx) ((b2.keep zAh).mono (by omega))
 (walk_at "m");refine m49 (b1.keep zAh) (by omega) (by decide) λv2 O2 a2 c2 k2 b2=>?_
 (walk_at "m");refine⟨_,rfl,by omega,?_⟩;have n1:=b1.lt;have e2:O2[O4.length]?=some []:=(k2.kp _ (by rw[qQ];exact Nat.lt_succ_self _) (by omega)).trans zAT;have l1:=k1.le;refine zEn (s:=⟨_,_⟩) ((rngL 0 (3+v2).toNat).map .dat) (λj s=>∃ (o5 o6:Option W) (O1:Mem) (ps:List Pt),s=⟨[some (.loc n),some (.dat (.int w)),some (.dat (.int h)),some (.dat (.int v1)),some (.loc O4.length),o5,o6],O1⟩/\Kx n O O1/\Bg O1 n (B+2+4*j)/\O1[O4.length]?=some ((ps.map ptD).map .dat)/\ps.length=j/\∀ p∈ps,PB 7 p) (λ_ _ _=>rfl) ?_ ?_ ⟨none,none,O2,[],rfl,(k1.trans zAh.kx).trans k2,b2,e2,rfl,by simp⟩
 .rintro j y s ey ⟨o5,o6,O1,ps,rfl,K,bb,ep,lp,hp⟩;obtain⟨rfl,hj⟩:=idx ey;refine⟨_,rfl,?_⟩;dsimp only;(walk_at "s");(walk_at "m");refine m55 bb (by omega) hw λq1 O9 r1 k3 b3=>?_
  (walk_at "m");refine m55 b3 (by omega) hh λq2 Z1 r2 k4 b4=>?_
  (walk_at "m");have l3:=(zzg ep).1;have e4:=((k3.trans k4).kp _ l3 (by omega)).trans ep;refine⟨[ratD q1,ratD q2],rfl,_,_,rfl,e4,by rw[qy,qy];omega,?_⟩;refine zCY (zEO ⟨_,_,_,ps++[(q1,q2)],rfl,⟨?_,λx hx z=>?_⟩,?_,?_,by rw[qQ,lp];rfl,λp hq=>?_⟩)
  .rw [length_set];exact(K.trans (k3.trans k4)).le
  .rw [getElem?_set_ne (by omega)];exact(K.trans (k3.trans k4)).kp x hx z
  .obtain ⟨x,y,e,h1,h2⟩:=b4.ex;exact⟨x,y,by rw[getElem?_set_ne (by omega)];exact e,h1,by omega⟩
  .rw [getElem?_set_self (zzg e4).1,x8,x8];rfl
  .rcases mem_append.mp hq with z | z
   .exact hp p z
   .rw [mem_singleton.mp z];exact⟨r1,r2⟩
 .rintro s ⟨o5,o6,O1,ps,rfl,K,bb,ep,lp,hp⟩;rw[nrng] at lp bb;(walk_at "m");exact one _ _ ps ep l1 ⟨by omega,hp⟩ K (bb.mono (by omega))
theorem zTu (f g h:Fm):jn (jn f g) h=jn f (jn g h):=by
 unfold jn;simp only[Fm.mk.injEq];refine⟨?_,?_,?_,?_,?_⟩<;>grind
theorem zR1 (f:Fm):jn f clr=f:=by
 unfold jn clr;cases f;simp only[Fm.mk.injEq];refine⟨?_,?_,?_,?_,?_⟩<;>grind
theorem zTB (f:Fm):jn clr f=f:=by
 unfold jn clr;cases f;simp only[Fm.mk.injEq];refine⟨?_,?_,?_,?_,?_⟩<;>grind
theorem zJ1 (f:Fm):mx f 1=f:=by
 unfold mx;cases f;simp only[Fm.mk.injEq];refine⟨?_,?_,?_,?_,?_⟩<;>grind
def Cl (w h:Nat)(L:Nat->Nat->Fm):Prop:=∀ j i,j < h->i < w->(L j i).k+(L j i).a=1
theorem zUM (h:f.k+f.a=1):al f t=mx f t:=by
 unfold al mx;simp only[Fm.mk.injEq,and_true];grind
theorem zIt (H:∀ k,k < N->Cl w h (L k)):∀ k,k<=N->Cl w h (aT L k)
  | 0,_=>λ_ _ _ _=>by show (1:Rat)+0=1;grind
  | k+1,l=>λj i hj hi=>by
    have a:=H k l j i hj hi;have b:=zIt H k (by omega) j i hj hi;show (L k j i).k*(aT L k j i).k+((L k j i).a+(aT L k j i).a*(L k j i).k)=1;grind
theorem zOO :∀ q,aT L (p+q) j i=jn (aT (λk=>L (p+k)) q j i) (aT L p j i)
 | 0=>(zTB _).symm
 | q+1=>by
  show jn (L (p+q) j i) (aT L (p+q) j i)=jn (jn (L (p+q) j i) (aT (λk=>L (p+k)) q j i)) (aT L p j i);rw[zOO q,zTu]
theorem zJ9 (e:∀ j i,j < h->i < w->L j i=C j i):mT w h L=mT w h C:=map_congr_left λj hj=>map_congr_left λi hi=>by rw[e j i (mem_range.mp hj) (mem_range.mp hi)]
theorem zKa (c:Cl w h L)(hj:j < h)(hi:i < w):gX x t (L j i)=mx (L j i) t:=by
 unfold gX;split
 .exact zUM (c j i hj hi)
 .rfl
theorem h48 (ns:List Int)(k:Nat)(Q:R->Prop)(h:∀ x y:Int,0<=y->y<=k+1->Q (.lst [.int x,.int y],.fr)):EvP (F48 [scr ns,.int k]) Q:=by
 (walk_at "d");unfold b48;(walk_at "st");(walk_at "w");refine h46 ns k _ (by omega) ?_;(walk_at "w");refine zTF (by decide) ?_;(walk_at "w");refine zA6 (λ_=>?_) λ_=>?_
 ·(walk_at "w");exact h _ _ (by decide) (by omega)
 (walk_at "w");refine zTF (by decide) ?_;(walk_at "w");refine zA6 (λ_=>?_) λ_=>?_
 ·(walk_at "w");exact h _ _ (by decide) (by omega)
 (walk_at "w");refine zEG (by decide) ?_;(walk_at "w");exact h _ _ (by omega) (by omega)
theorem h59 (c:Cl w h L)(b:TB m w h L)(l:m<=10000000)(Q:R->Prop)(q:Q (.bl true,.cl)):EvP (F59 [.lst ((mT w h L).map .lst)]) Q:=by
 (walk_at "d");unfold b59;(walk_at "st");refine zAF (zCI (zGa (zAH rfl (w_cl ?_))));refine zCg (λxs G=>(∃ a b,G=[some (.lst ((mT w h L).map .lst),false),a,b])/\∀ x∈xs,∃ j,j < h/\x=.lst (rT w L j)) ?_ ?_ _ _ ⟨⟨none,none,rfl⟩,λx hx=>?_⟩
 .rintro x xs G ⟨⟨a,b',rfl⟩,hx⟩;obtain⟨j,hj,rfl⟩:=hx x xq;refine⟨_,rfl,?_⟩;(walk_at "s");refine zAF (zCI (zGa (zAH rfl (w_cl ?_))));refine zCg (λys G=>(∃ b,G=[some (.lst ((mT w h L).map .lst),false),some (.lst (rT w L j),false),b])/\∀ y∈ys,∃ i,i < w/\y=fmD (L j i)) ?_ ?_ _ _ ⟨⟨_,rfl⟩,λy hy=>?_⟩
  .rintro y ys G ⟨⟨b',rfl⟩,hy⟩;obtain⟨i,hi,rfl⟩:=hy y xq;have B:=b.b j i hj hi;refine⟨_,rfl,?_⟩;(walk_at "s");refine zAF (zD6 (zDS (zAI rfl (zAG (zBF (zAH rfl (zBp (zCp (d:=ratD (L j i).k) rfl (n_cl (zAG (zBF (zAH rfl (zBp (zCp (d:=ratD (L j i).a) rfl (n_cl (zAj ?_))))))))))))))));refine h51 _ _ m m _ B.k B.a (by omega) ?_;refine n_cl ?_;dsimp only;rw[c j i hj hi];(walk_at "w");refine c_ne (zFc (zD8 1) (zD8 1) (by decide)) ?_;rw[show ∀ d,eqb d (D.tup [.int 1,.int 1])=eqb d (ratD 1) from λ_=>rfl,zHy];(walk_at "w");exact⟨⟨_,rfl⟩,λz hz=>hy z (qJ _ hz)⟩
  .rintro G ⟨⟨b',rfl⟩,_⟩;exact k_nx (zBZ ⟨⟨_,_,rfl⟩,λz hz=>hx z (qJ _ hz)⟩)
  .obtain ⟨i,hi,rfl⟩:=mem_map.mp hy;exact⟨i,mem_range.mp hi,rfl⟩
 .rintro G ⟨⟨a,b',rfl⟩,_⟩;refine k_nx ?_;(walk_at "w");exact q
 .obtain ⟨r,hr,rfl⟩:=mem_map.mp hx;obtain⟨j,hj,rfl⟩:=mem_map.mp hr;exact⟨j,mem_range.mp hj,rfl⟩
structure K2 (a c:Nat)(O O2:Mem):Prop where
 le:O.length<=O2.length
 kp:∀ x,x < O.length->x≠a->x≠c->O2[x]?=O[x]?
theorem K2.trans (k:K2 a c O O2)(l:K2 a c O2 O9):K2 a c O O9:=⟨le_trans k.le l.le,λx hx y z=>(l.kp x (xY hx k.le) y z).trans (k.kp x hx y z)⟩
theorem Kq.k2 (k:Kq O O2):K2 a c O O2:=⟨k.le,λx hx _ _=>k.kp x hx⟩
theorem Kx.k2 (k:Kx a O O2):K2 a c O O2:=⟨k.le,λx hx y _=>k.kp x hx y⟩
structure Lf (a c:Nat)(O:Mem)(o:W)(w h:Nat)(L:Nat->Nat->Fm):Prop where
 b:TB 221000 w h L
 cl:Cl w h L
 f:∀ O1,K2 a c O O1->clsW "films" o=some "Fill"/\flK zAe o w h O1 L
theorem Lf.keep (f:Lf a c O o w h L)(k:K2 a c O O2):Lf a c O2 o w h L:=⟨f.b,f.cl,λO1 k'=>f.f O1 (k.trans k')⟩
theorem zRs (s:Fl w h rs)(R:Rw O x b l (rs.map λps=>ps.map ptD))(ha:a < b)(hc:c < b)(ht:RB 80 t)(h1:I255 r)(h2:I255 g)(h3:I255 d):Lf a c O (zHB x (inkD r g d) t) w h (zP1 w h rs t r g d) :=
 ⟨zSj s ht h1 h2 h3,λj i _ _=>Rat.sub_add_cancel,λO1 k=>⟨rfl,zTt s ht h1 h2 h3 (Rw.shape (R.range λx hx hl=>k.kp x hl (by omega) (by omega)))⟩⟩
abbrev ix1:List (Str×Nat):=[("Fill",13),("Join",15),("Group",16)]
abbrev ixL:List (Str×Nat):=[("Fill",13),("Join",18),("Group",19)]
section
variable {w h a m:Nat}{ws:List W}{t:Rat}{O:Mem}{L:Nat->Nat->Nat->Fm}
theorem d0 (ea:O[a]?=some ws)(hb:∀ k,k < ws.length->TB m w h (L k))(hd:∀ k o,ws[k]?=some o->∀ O1,Kq O O1->clsW "films" o=some "Fill"/\flK zAe o w h O1 (L k))(ht:RB 80 t)(l:m+(1+ws.length*(2*m+1))+100<=10000000)(hw:w<=10)(hh:h<=10) :
  Disp D15 ix1 (objW "Join" a t) w h O (λj i=>gX false t (aT L ws.length j i))/\Disp D15 ix1 (objW "Group" a t) w h O (λj i=>gX true t (aT L ws.length j i)):=by
 have q:=jgd (U:=D13) (n:=14) (FJ:=FM45) (a:=a) (O:=O) (ws:=ws) (aT_b hb _ (le_refl _)) ht (by omega) hw hh rfl λQ q=>zR3 (U:=D12) (ix:=[("Fill",13)]) rfl rfl ea (λk o e O1 k'=>⟨_,_,_,_,(hd k o e O1 k').1,rfl,rfl,by decide +kernel,(hd k o e O1 k').2⟩) hb (by omega) hw hh q
 exact⟨⟨_,15,_,zC6,rfl,rfl,rfl,by decide +kernel,q.1⟩,⟨_,16,_,zCh,rfl,rfl,rfl,by decide +kernel,q.2⟩⟩
theorem d1 (ea:O[a]?=some ws)(hb:∀ k,k < ws.length->TB m w h (L k))(hd:∀ k o,ws[k]?=some o->∀ O1,Kq O O1->Disp D15 ix1 o w h O1 (L k))(ht:RB 80 t)(l:m+(1+ws.length*(2*m+1))+100<=10000000)(hw:w<=10)(hh:h<=10) :
  Disp D24 ixL (objW "Join" a t) w h O (λj i=>gX false t (aT L ws.length j i))/\Disp D24 ixL (objW "Group" a t) w h O (λj i=>gX true t (aT L ws.length j i)):=by
 have q:=jgd (U:=D16) (n:=17) (FJ:=zOP) (a:=a) (O:=O) (ws:=ws) (aT_b hb _ (le_refl _)) ht (by omega) hw hh rfl λQ q=>zR3 (U:=D15) (ix:=ix1) rfl rfl ea hd hb (by omega) hw hh q
 exact⟨⟨_,18,_,zCR,rfl,rfl,rfl,by decide +kernel,q.1⟩,⟨_,19,_,zCA,rfl,rfl,rfl,by decide +kernel,q.2⟩⟩
end
theorem zRr {d1:D}(e1:drW O w1=some d1)(e2:drW O w2=some d2)(h:EvP (F [d1,d2]) λr=>EvP (zC5 r O) Q):EvP (zGA F [w1,w2] O) Q:=by
 obtain⟨r,er,z,ez,q⟩:=h;refine⟨z,?_,q⟩;unfold zGA;have e:sbL (drN O 6) [w1,w2]=some [d1,d2]:=by
  have a1:sbW (drN O 6) w1=some d1:=e1;have a2:sbW (drN O 6) w2=some d2:=e2;rw[sbL,a1,qx,sbL,a2,qx,sbL]
  rfl
 rw[e,qx,er,qx];exact ez
theorem dg (d:Disp U ix o w h O L)(e1:G[1]?=some (some (.dat (.int (w:Int)))))(e2:G[2]?=some (some (.dat (.int (h:Int)))))(q:∀ O1 m l,Kq O O1->Rw O1 m O.length l (mT w h L)->Q (.loc m,O1)) :
  ∃ c n y F,clsW "films" o=some c/\ix.lookup c=some n/\U[n]?=some (y,F)/\spec.lookup y=some (.mth c "films")/\EvP (evMs J U (.cons (.var 1) (.cons (.var 2) .nil)) ⟨G,O⟩) λws=>EvP (F (o::ws.1) ws.2) Q:=by
 obtain⟨c,n,y,F,d1,d2,d3,d4,d5⟩:=d;exact⟨c,n,y,F,d1,d2,d3,d4,zAS (zAW e1 (zAS (zAW e2 (zBY (d5 _ q)))))⟩
theorem Kx.kq (k:Kx O.length (O++[ws]) O2):Kq O O2:=by
 have:=k.le;rw[qQ] at this;exact⟨by omega,λx hx=>(k.kp x (by rw[qQ];omega) (by omega)).trans (getElem?_append_left hx)⟩
theorem mJ (e:O[n]?=some ws)(ho:StO o t)(hQ:∀ (O1:Mem) (a:Nat),Kq O O1->O.length<=a->O1[a]?=some ws->Q (objW "Join" a t,O1)):EvP (zDL [.loc n,.dat o] O) Q:=zTn e ho (hQ _ _ zAh (le_refl _) zAT)
theorem mG (e:O[n]?=some ws)(ho:StO o t)(hQ:∀ (O1:Mem) (a:Nat),Kq O O1->O.length<=a->O1[a]?=some ws->Q (objW "Group" a t,O1)):EvP (zCt [.loc n,.dat o] O) Q:=zRo e ho (hQ _ _ zAh (le_refl _) zAT)
theorem zNF {n:Nat}(h:n<=ws.length):cutW ws (some (n:Int)) none=ws.drop n:=by
 unfold cutW HT.sIx;simp[h];rw[if_neg (by omega),take_of_length_le (by rw[length_drop];exact le_refl _)]
theorem zPI {os:List W}{L:Nat->Nat->Nat->Fm}(H:∀ k o,os[k]?=some o->Lf a c O o w h (L k))(k:K2 a c O O1)(n:Lf a c O1 o w h C):∀ i x,(os++[o])[i]?=some x->Lf a c O1 x w h ((λi=>if i=os.length then C else L i) i):=λi x e=>by
 by_cases z:i < os.length
 .rw [getElem?_append_left z] at e;dsimp only;rw[if_neg (by omega)];exact(H i x e).keep k
 .rw [getElem?_append_right (by omega)] at e;have hk:i - os.length=0:=by have:=(zzg e).1;simpa using this
  rw[hk] at e;obtain rfl:o=x:=by simpa using e
  dsimp only;rw[if_pos (by omega)];exact n
theorem zRj (h:EvP (evM J U a s) λx=>EvP (evM J U b ⟨s.G,x.2⟩) λy=>∃ (n A:Nat) (os:List W),x.1=.loc n/\y.1=.dat (.int (A:Int))/\y.2[n]?=some os/\A<=os.length/\∀ (O1:Mem) (c:Nat),Kq y.2 O1->y.2.length<=c->O1[c]?=some (os.take A)->Q (.loc c,O1)):EvP (evM J U (.slc true a b) s) Q :=
 zRl (h.imp λx h=>h.imp λy zy144=>by obtain⟨n,A,os,h1,h2,h3,h4,q⟩:=zy144;exact⟨n,A,os,h1,h2,h3,by rw[if_pos rfl,if_pos rfl,zNE h4];exact q _ _ zAh (le_refl _) zAT⟩)
theorem zRk (h:EvP (evM J U a s) λx=>EvP (evM J U b ⟨s.G,x.2⟩) λy=>∃ (n A:Nat) (os:List W),x.1=.loc n/\y.1=.dat (.int (A:Int))/\y.2[n]?=some os/\A<=os.length/\∀ (O1:Mem) (c:Nat),Kq y.2 O1->y.2.length<=c->O1[c]?=some (os.drop A)->Q (.loc c,O1)):EvP (evM J U (.slc false a b) s) Q :=
 zRl (h.imp λx h=>h.imp λy zy145=>by obtain⟨n,A,os,h1,h2,h3,h4,q⟩:=zy145;exact⟨n,A,os,h1,h2,h3,by rw[if_neg qY,if_neg qY,zNF h4];exact q _ _ zAh (le_refl _) zAT⟩)
theorem zOY (h:EvP (evM J U (.call n f es) s) λr=>r.1=.dat (.bl true)/\Q (false,r.2)):EvP (evT J U (.not (.call n f es)) s) Q:=by
 obtain⟨⟨x,m⟩,e,rfl,q⟩:=h;refine⟨_,?_,q⟩;show notB (asBM (evM J U (.call n f es))) s=_;unfold notB asBM;rw[e]
 rfl
theorem Disp.ext (d:Disp U ix o w h O L)(e:∀ j i,j < h->i < w->L j i=C j i):Disp U ix o w h O C:=by
 obtain⟨c,n,y,F,d1,d2,d3,d4,d5⟩:=d;exact⟨c,n,y,F,d1,d2,d3,d4,λQ q=>d5 Q λO1 m l k R=>q O1 m l k (by rw[<- zJ9 e];exact R)⟩
abbrev cB (b:Bool):Str:=if b then "Group" else "Join"
section
variable {w h a m:Nat}{ws:List W}{t:Rat}{O:Mem}{L:Nat->Nat->Nat->Fm}
theorem e0 (b:Bool)(ea:O[a]?=some ws)(hb:∀ k,k < ws.length->TB m w h (L k))(hc:∀ k,k < ws.length->Cl w h (L k))(hd:∀ k o,ws[k]?=some o->∀ O1,Kq O O1->clsW "films" o=some "Fill"/\flK zAe o w h O1 (L k))(l:m+(1+ws.length*(2*m+1))+100<=10000000)(hw:w<=10)(hh:h<=10):Disp D15 ix1 (objW (cB b) a 1) w h O (aT L ws.length):=by
 obtain⟨q1,q2⟩:=d0 ea hb hd (zCc.mono (by decide)) l hw hh;have e:∀ x j i,j < h->i < w->gX x 1 (aT L ws.length j i)=aT L ws.length j i:=λx j i hj hi=>(zKa (zIt hc _ (le_refl _)) hj hi).trans (zJ1 _)
 cases b
 .exact q1.ext (e _)
 .exact q2.ext (e _)
theorem e1 (b:Bool)(ea:O[a]?=some ws)(hb:∀ k,k < ws.length->TB m w h (L k))(hc:∀ k,k < ws.length->Cl w h (L k))(hd:∀ k o,ws[k]?=some o->∀ O1,Kq O O1->Disp D15 ix1 o w h O1 (L k))(l:m+(1+ws.length*(2*m+1))+100<=10000000)(hw:w<=10)(hh:h<=10):Disp D24 ixL (objW (cB b) a 1) w h O (aT L ws.length):=by
 obtain⟨q1,q2⟩:=d1 ea hb hd (zCc.mono (by decide)) l hw hh;have e:∀ x j i,j < h->i < w->gX x 1 (aT L ws.length j i)=aT L ws.length j i:=λx j i hj hi=>(zKa (zIt hc _ (le_refl _)) hj hi).trans (zJ1 _)
 cases b
 .exact q1.ext (e _)
 .exact q2.ext (e _)
theorem nest (b b1 b2:Bool)(hA:A<=ws.length)(h4:ws.length<=4)(ea:O[a]?=some [objW (cB b1) a1 1,objW (cB b2) a2 1])(e1':O[a1]?=some (ws.take A))(e2':O[a2]?=some (ws.drop A))(hb:∀ k,k < ws.length->TB 221000 w h (L k))(hc:∀ k,k < ws.length->Cl w h (L k))(hd:∀ k o,ws[k]?=some o->∀ O1,Kq O O1->clsW "films" o=some "Fill"/\flK zAe o w h O1 (L k))(hw:w<=10)(hh:h<=10):Disp D24 ixL (objW (cB b) a 1) w h O (aT L ws.length):=by
 have l1:(ws.take A).length=A:=by rw[length_take];omega
 have l2:(ws.drop A).length=ws.length - A:=length_drop;have s1:=mul_le_mul_right (2*221000+1) (show A<=4 by omega);have s2:=mul_le_mul_right (2*221000+1) (show ws.length - A<=4 by omega);have B1:=aT_b hb A hA;have C1:=zIt hc A hA;have B2:=aT_b (L:=λk=>L (A+k)) (N:=ws.length - A) (λk hk=>hb _ (by omega)) _ (le_refl _);have C2:=zIt (L:=λk=>L (A+k)) (N:=ws.length - A) (λk hk=>hc _ (by omega)) _ (le_refl _);refine(e1 (L:=λk=>if k=0 then aT L A else aT (λk=>L (A+k)) (ws.length - A)) (m:=1768010) b ea (λk _=>?_) (λk _=>?_) (λk o e O1 k'=>?_) (by rw[show [objW (cB b1) a1 1,objW (cB b2) a2 1].length=2 from rfl];omega) hw hh).ext λj i _ _=>?_
 .split
  .exact B1.mono (by omega)
  .exact B2.mono (by omega)
 .split
  .exact C1
  .exact C2
 .match k,e with
  | 0,e =>
   cases e;have:=e0 (L:=L) (m:=221000) b1 (k'.get e1') (λk hk=>hb k (by omega)) (λk hk=>hc k (by omega)) (λk o e Oy ky=>hd k o (by rw[List.getElem?_take] at e;split at e;exact e;cases e) Oy (k'.trans ky)) (by rw[l1];omega) hw hh;rw[l1] at this;exact this
  | 1,e =>
   cases e;have:=e0 (L:=λk=>L (A+k)) (m:=221000) b2 (k'.get e2') (λk hk=>hb _ (by omega)) (λk hk=>hc _ (by omega)) (λk o e Oy ky=>hd _ o (by rw[List.getElem?_drop] at e;exact e) Oy (k'.trans ky)) (by rw[l2];omega) hw hh;rw[l2] at this;exact this
  | _+2,e=>cases e
 .show jn (aT (λk=>L (A+k)) (ws.length - A) j i) (jn (aT L A j i) clr)=aT L ws.length j i;rw[zR1,<- zOO,Nat.add_sub_cancel' hA]
end
theorem zRt (ns:List Int)(hn:ns.length<=63):EvP (FM60 [.dat (scr ns)] []) λx=>x.1=.dat (.bl true):=by
 refine zCZ rfl (by decide) ?_;show EvP (evSs' GL3 D24 mb60 ⟨[some (.dat (scr ns)),none,none,none,none,none,none,none,none,none,none,none,none,none],[]⟩) _;unfold mb60;(walk_at "m");refine h46 ns 0 _ (by decide) ?_;(walk_at "m");refine h46 ns 1 _ (by decide) ?_;(walk_at "m");obtain⟨w,ew⟩:∃ w:Nat,1+(cel ns 0).fmod 3=(w:Int):=⟨(1+(cel ns 0).fmod 3).toNat,by have:=zEf (x:=cel ns 0) (m:=3) (by decide);omega⟩;obtain⟨h,eh⟩:∃ h:Nat,1+(cel ns 1).fmod 2=(h:Int):=⟨(1+(cel ns 1).fmod 2).toNat,by have:=zEf (x:=cel ns 1) (m:=2) (by decide);omega⟩;have w1:=zEf (x:=cel ns 0) (m:=3) (by decide);have h1:=zEf (x:=cel ns 1) (m:=2) (by decide);rw[ew,eh];have ww:1<=w/\w<=3:=by omega
 have hh:1<=h/\h<=2:=by omega
 clear w1 h1 ew eh;refine h48 ns 2 _ λx0 y0 p1 p2=>n_fr (zIs rfl ?_)
 (walk_at "m");refine m49 (n:=0) (O:=[[.dat (.int x0),.dat (.int y0)]]) (B:=3) ⟨x0,y0,rfl,p1,by omega⟩ (by decide) (by decide) λv O4 v0 v5 k1 b1=>?_
 obtain⟨M,rfl⟩:=Int.eq_ofNat_of_zero_le v0;have l1:0 < O4.length:=k1.le;(walk_at "m");refine⟨_,rfl,by omega,?_⟩;rw[toNat_natCast];refine zEn (s:=⟨_,_⟩) ((rngL 0 M).map .dat) (λj s=>∃ (o6 o7 o8 o9:Option W) (O1:Mem) (os:List W) (L:Nat->Nat->Nat->Fm),s=⟨[some (.dat (scr ns)),some (.dat (.int (w:Int))),some (.dat (.int (h:Int))),some (.loc 0),some (.dat (.int (M:Int))),some (.loc O4.length),o6,o7,o8,o9,none,none,none,none],O1⟩/\Bg O1 0 4/\O1[O4.length]?=some os/\os.length=j/\∀ k o,os[k]?=some o->Lf 0 O4.length O1 o w h (L k)) (λ_ _ _=>rfl) ?_ ?_ ⟨none,none,none,none,O4++[[]],[],λ_ _ _=>clr,rfl,b1.keep zAh,zAT,rfl,by simp⟩
 .rintro j y s ey ⟨o6,o7,o8,o9,O1,os,L,rfl,bb,eF,lo,lf⟩;obtain⟨rfl,hj⟩:=idx ey;refine⟨_,rfl,?_⟩;dsimp only;(walk_at "s");have lF:=(zzg eF).1;(walk_at "m");rw[show (3:Int)+(j:Int)=((3+j:Nat):Int) by omega];refine h48 ns (3+j) _ λx y p1 p2=>n_fr (zIs rfl ?_)
  (walk_at "m");refine m53 (n:=O1.length) (B:=3+j+1) ⟨x,y,zAT,p1,by omega⟩ (by omega) λt Ob rt kb bb'=>?_
  (walk_at "m");refine m54 bb' (by omega) λr g c Oc i1 i2 i3 kc bc=>?_
  (walk_at "m");refine m57 bc (by omega) (by omega) (by omega) λOd m l rs kd bd R lr hs=>?_
  (walk_at "m");have kq:Kq O1 Od:=((kb.trans kc).trans kd).kq;have ld:=(kb.trans kc).le;rw[qQ] at ld;refine zTo R (by rw[qy];omega) zMs (.inr rfl) λP m2 l2 R2=>?_
  have kg:Kq O1 (Od++P):=kq.app;have lg:=kg.le;have K:K2 0 O4.length O1 ((Od++P).set O4.length (os++[zHB m2 (inkD r g c) t])):=⟨by rw[length_set];exact lg,λx hx _ z=>by rw[getElem?_set_ne (Ne.symm z)];exact kg.kp x hx⟩;have ldd:=kd.le;refine⟨_,_,rfl,kg.get eF,by omega,zCY (zEO ⟨_,_,_,_,_,os++[zHB m2 (inkD r g c) t],_,rfl,?_,getElem?_set_self (show O4.length < (Od++P).length by omega),by rw[qQ,lo];rfl,zPI lf K (zRs (l:=l2) (rs:=rs) ⟨ww.1,by omega,hh.1,by omega,lr,hs⟩ (R2.range λx hx hl=>getElem?_set_ne (by omega)) (by omega) (by omega) rt i1 i2 i3)⟩)⟩;obtain⟨x,y,e,q⟩:=bb.ex;exact⟨x,y,by rw[getElem?_set_ne (by omega)];exact kg.get e,q⟩
 .rintro s ⟨o6,o7,o8,o9,O1,os,L,rfl,bb,eF,lo,lf⟩;rw[nrng] at lo;(walk_at "m");refine m49 bb (by decide) (by omega) λv O2 v0 v5 k2 b2=>?_
  obtain⟨A,rfl⟩:=Int.eq_ofNat_of_zero_le v0;have hA:A<=os.length:=by omega
  have e2:O2[O4.length]?=some os:=(k2.kp _ (zzg eF).1 (by omega)).trans eF;have lf2:∀ k o,os[k]?=some o->Lf 0 O4.length O2 o w h (L k):=λk o e=>(lf k o e).keep k2.k2
  clear lf;have hb:∀ k,k < os.length->TB 221000 w h (L k):=λk hk=>(lf2 k _ (getElem?_eq_getElem hk)).b
  have hc:∀ k,k < os.length->Cl w h (L k):=λk hk=>(lf2 k _ (getElem?_eq_getElem hk)).cl
  have cN:=zIt hc os.length (le_refl _);have bN:=aT_b hb os.length (le_refl _);have ls:=mul_le_mul_right (2*221000+1) (show os.length<=4 by omega);have top:∀ {Ox:Mem} {a:Nat} {t:Rat},K2 0 O4.length O2 Ox->Ox[a]?=some os->RB 80 t->Disp D24 ixL (objW "Join" a t) w h Ox (λj i=>gX false t (aT L os.length j i))/\Disp D24 ixL (objW "Group" a t) w h Ox (λj i=>gX true t (aT L os.length j i)):=λk ea ht =>
   d1 ea hb (λn o e Oy ky=>by
    obtain⟨c1,c2⟩:=(lf2 n o e).f Oy (k.trans ky.k2);exact⟨_,_,_,_,c1,rfl,rfl,by decide +kernel,c2⟩) ht (by omega) (by omega) (by omega)
  (walk_at "m");refine mJ (t:=1) e2 (.inl ⟨rfl,rfl⟩) λO9 a3 k3 q3 e3=>?_
  refine dg (top k3.k2 e3 (zCc.mono (by decide))).1 rfl rfl λZ1 n4 l4 k4 R4=>?_
  have dd:mT w h (λj i=>gX false 1 (aT L os.length j i))=mT w h (aT L os.length):=zJ9 λj i hj hi=>(zKa cN hj hi).trans (zJ1 _)
  rw[dd] at R4;have D4:=R4.dr;(walk_at "m");refine⟨by simp;omega,?_⟩;refine zLM (n:=14) (base:=mask none [] (drS Z1 _)) rfl id _ _ (λz hz=>?_) ?_
  .obtain ⟨r,_,rfl⟩:=mem_map.mp hz;exact zFb (zAH rfl (zI6 ⟨(λz=>nomatch z),rfl⟩))
  rw[List.map_id];(walk_at "m");refine zG6 (by omega) (by omega) ?_;(walk_at "m");refine h59 cN bN (by omega) _ ?_;(walk_at "m");refine⟨(λz=>nomatch z),λ_=>?_⟩;have k24:Kq O2 Z1:=k3.trans k4;(walk_at "m");refine mG (t:=1) (k24.get e2) (.inl ⟨rfl,rfl⟩) λU7 a5 k5 q5 e5=>?_
  (walk_at "m");refine zRj (zAW rfl (zAW rfl ⟨_,A,os,rfl,rfl,(k24.trans k5).get e2,hA,λU8 a6 k6 q6 e6=>?_⟩));(walk_at "m");refine mG (t:=1) e6 (.inl ⟨rfl,rfl⟩) λZ8 a7 k7 q7 e7=>?_
  have k27:Kq O2 Z8:=((k24.trans k5).trans k6).trans k7;(walk_at "m");refine zRk (zAW rfl (zAW rfl ⟨_,A,os,rfl,rfl,k27.get e2,hA,λU9 a8 k8 q8 e8=>?_⟩));(walk_at "m");refine mJ (t:=1) e8 (.inl ⟨rfl,rfl⟩) λZ9 a9 k9 q9 e9=>?_
  have k79:Kq Z8 Z9:=k8.trans k9;(walk_at "m");refine mJ (t:=1) zAT (.inl ⟨rfl,rfl⟩) λOA aA kA qA eA=>?_
  have k9A:Kq Z9 OA:=zAh.trans kA;(walk_at "m");have k2A:Kq O2 (OA++[[objW "Group" a5 1,objW "Join" aA 1]]):=(k27.trans (k79.trans k9A)).app;refine zRj (zAW rfl (zAW rfl ⟨_,A,os,rfl,rfl,k2A.get e2,hA,λOB aB kB qB eB=>?_⟩));(walk_at "m");refine mJ (t:=1) eB (.inl ⟨rfl,rfl⟩) λOC aC kC qC eC=>?_
  have k2C:=k2A.trans (kB.trans kC);(walk_at "m");refine zRk (zAW rfl (zAW rfl ⟨_,A,os,rfl,rfl,k2C.get e2,hA,λOD aD kD qD eD=>?_⟩));(walk_at "m");refine mG (t:=1) eD (.inl ⟨rfl,rfl⟩) λOE aE kE qE eE=>?_
  have kCE:Kq OC OE:=kD.trans kE;(walk_at "m");refine mG (t:=1) zAT (.inl ⟨rfl,rfl⟩) λOF aF kF qF eF'=>?_
  have kEF:Kq OE OF:=zAh.trans kF;have kAF:Kq (OA++[[objW "Group" a5 1,objW "Join" aA 1]]) OF:=(kB.trans kC).trans (kCE.trans kEF);refine⟨_,_,rfl,kAF.get zAT,by show 2<=10000;decide,zCY ?_⟩;have qA':(OA++[[objW "Group" a5 1,objW "Join" aA 1]]).length=OA.length+1:=by rw[qQ];rfl
  have lB:OA.length < OB.length:=by have:(OA++[[objW "Group" a5 1,objW "Join" aA 1]]).length<=OB.length:=kB.le;omega
  have qC2:OB.length<=aC:=qC;have qE2:OD.length<=aE:=qE;have lD:OC.length<=OD.length:=kD.le;have qF2:(OE++[[objW "Join" aC 1,objW "Group" aE 1]]).length<=aF:=qF;rw[qQ] at qF2;have lC:=kC.le;have lE:=kCE.le;have lF':=kEF.le;have kAZ:Kq OA (OF.set OA.length [objW "Group" a5 1,objW "Join" aA 1,objW "Group" aF 1]):=(zAh.trans kAF).set (le_refl _);have zz:∀ {x:Nat} {v:List W},OA.length < x->OF[x]?=some v->(OF.set OA.length [objW "Group" a5 1,objW "Join" aA 1,objW "Group" aF 1])[x]?=some v:=λhx e=>by rw[getElem?_set_ne (by omega)];exact e
  have z5:=kAZ.get (k9A.get (k79.get (k7.get (k6.get e5))));have z7:=kAZ.get (k9A.get (k79.get e7));have z9:=kAZ.get (k9A.get e9);have zA:=kAZ.get eA;have zC:=zz (by omega) (kEF.get (kCE.get eC));have zE:=zz (by omega) (kEF.get eE);have zF:=zz (by omega) eF';have zT:=getElem?_set_self (l:=OF) (i:=OA.length) (a:=[objW "Group" a5 1,objW "Join" aA 1,objW "Group" aF 1]) (by omega);have k2Z:Kq O2 (OF.set OA.length [objW "Group" a5 1,objW "Join" aA 1,objW "Group" aF 1]):=(k27.trans (k79.trans k9A)).trans kAZ;have D4Z:∀ {Ox:Mem},Kq (OF.set OA.length [objW "Group" a5 1,objW "Join" aA 1,objW "Group" aF 1]) Ox->drW Ox (.loc n4)=some (.lst ((mT w h (aT L os.length)).map .lst)):=λk=>(R4.keep (((((k5.trans k6).trans k7).trans (k79.trans k9A)).trans kAZ).trans k)).dr
  refine(show EvP (evSs' GL3 D24 _ ⟨[some (.dat (scr ns)),some (.dat (.int (w:Int))),some (.dat (.int (h:Int))),some (.loc 0),some (.dat (.int (M:Int))),some (.loc O4.length),o6,o7,o8,o9,some (.dat (.int (A:Int))),some (.loc n4),some (.loc OA.length),none],OF.set OA.length [objW "Group" a5 1,objW "Join" aA 1,objW "Group" aF 1]⟩) _ from ?_);generalize OF.set OA.length [objW "Group" a5 1,objW "Join" aA 1,objW "Group" aF 1]=OZ at *;have lv:∀ {Ox:Mem},Kq OZ Ox->∀ k o,os[k]?=some o->∀ Oy,Kq Ox Oy->clsW "films" o=some "Fill"/\flK zAe o w h Oy (L k):=λk n o e Oy ky=>(lf2 n o e).f Oy ((k2Z.trans k).trans ky).k2
  (walk_at "m");refine⟨_,rfl,?_⟩;refine zEn (s:=⟨_,_⟩) [objW "Group" a5 1,objW "Join" aA 1,objW "Group" aF 1] (λj s=>∃ (o13:Option W) (O1:Mem),s=⟨[some (.dat (scr ns)),some (.dat (.int (w:Int))),some (.dat (.int (h:Int))),some (.loc 0),some (.dat (.int (M:Int))),some (.loc O4.length),o6,o7,o8,o9,some (.dat (.int (A:Int))),some (.loc n4),some (.loc OA.length),o13],O1⟩/\Kq OZ O1) (λj s z=>?_) ?_ ?_ ⟨none,OZ,rfl,zHn⟩
  .obtain ⟨_,_,rfl,k⟩:=z;exact k.get zT
  .rintro j y s ey ⟨o13,Ox,rfl,k⟩;have d:Disp D24 ixL y w h Ox (aT L os.length):=by
    match j,ey with
    | 0,e =>
     cases e;exact e1 true (k.get z5) hb hc (λn o e Oy ky=>by
      obtain⟨c1,c2⟩:=lv k n o e Oy ky;exact⟨_,_,_,_,c1,rfl,rfl,by decide +kernel,c2⟩) (by omega) (by omega) (by omega)
    | 1,e=>cases e;exact nest false true false hA (by omega) (k.get zA) (k.get z7) (k.get z9) hb hc (lv k) (by omega) (by omega)
    | 2,e=>cases e;exact nest true false true hA (by omega) (k.get zF) (k.get zC) (k.get zE) hb hc (lv k) (by omega) (by omega)
    | _+3,e=>cases e
   refine⟨_,rfl,?_⟩;dsimp only;(walk_at "s");refine zAc (zNd (zOY ?_));(walk_at "m");refine dg d rfl rfl λOy n l ky R=>?_
   (walk_at "m");refine zRr R.dr (D4Z (k.trans ky)) ?_;refine zG6 (by omega) (by omega) ?_;(walk_at "m");refine⟨rfl,(λz=>nomatch z),λ_=>?_⟩;(walk_at "m");exact⟨_,_,rfl,k.trans ky⟩
  .rintro s ⟨o13,Ox,rfl,k⟩;(walk_at "m");refine m53 (b2.keep (k2Z.trans k)) (by decide) λt Oy rt ky by'=>?_
   have K:K2 0 O4.length O2 Oy:=(k2Z.trans k).k2.trans ky.k2;have ey:=K.le;have e6:Oy[O4.length]?=some os:=(ky.kp _ (zzg ((k2Z.trans k).get e2)).1 (by omega)).trans ((k2Z.trans k).get e2);(walk_at "m");refine mG (t:=t) e6 (.inr rfl) λOu au ku qu eu=>?_
   refine dg (top (K.trans ku.k2) eu rt).2 rfl rfl λOv nv lv' kv Rv=>?_
   (walk_at "m");refine mJ (t:=t) (kv.get (ku.get e6)) (.inr rfl) λOp ap kp qp ep=>?_
   refine dg (top (((K.trans ku.k2).trans kv.k2).trans kp.k2) ep rt).1 rfl rfl λOq nq lq kq Rq=>?_
   (walk_at "m");rw[zJ9 (C:=λj i=>gX false t (aT L os.length j i)) λj i hj hi=>(zKa cN hj hi).trans (zKa cN hj hi).symm] at Rv;refine zRr (Rv.keep (kp.trans kq)).dr Rq.dr ?_;refine zG6 (by omega) (by omega) ?_;(walk_at "m")
   rfl
theorem law_true (ns:List Int)(hn:ns.length<=63):∃ O,FM60 [.dat (.lst (ns.map D.int))] []=some (.dat (.bl true),O):=by
 obtain⟨⟨w,O⟩,e,q⟩:=zRt ns hn;cases q;exact⟨O,e⟩
end Q
end
namespace PySem.W.Fast
def tw10047353418513172320:=0
def tw10058441231556981610:=0
def tw1007083784454944940:=0
def tw10075566275703315207:=0
def tw10156630837685025611:=0
def tw10160603367362875741:=0
def tw10178605929935121926:=0
def tw10185066622118808452:=0
def tw10223449019012204782:=0
def tw10251647413986622253:=0
def tw10259612633535816900:=0
def tw10280051238015005469:=0
def tw10432767768535281501:=0
def tw10475025898425136806:=0
def tw10477854639244868850:=0
def tw1061650648511842052:=0
def tw10654218038069158442:=0
def tw10820231843973003525:=0
def tw10873640842877462600:=0
def tw109467304299758238:=0
def tw10956082786836831754:=0
def tw10972484684244682306:=0
def tw11008343645317649867:=0
def tw11048319796798475175:=0
def tw11093813381290726009:=0
def tw11116501605129711320:=0
def tw11148085386324306618:=0
def tw11190521562857438736:=0
def tw11229308725697110361:=0
def tw11357047834559660877:=0
def tw11358799661274507446:=0
def tw11429041176341102442:=0
def tw11475516836928569444:=0
def tw11599042458403490082:=0
def tw11645150399538681623:=0
def tw11680769565980755375:=0
def tw11735269980196748362:=0
def tw11860644249847994097:=0
def tw11890208962053260319:=0
def tw12034661544531356030:=0
def tw12039477523951122470:=0
def tw12073332105821400021:=0
def tw1215395812531787838:=0
def tw12157081864337547440:=0
def tw12239821291376375536:=0
def tw12307509900819732343:=0
def tw12539560076049887114:=0
def tw12668668323905875109:=0
def tw12762107463193703047:=0
def tw12806036276779847921:=0
def tw1286054728659761288:=0
def tw12935743507081836276:=0
def tw12956130909454739062:=0
def tw12998663264780457950:=0
def tw13025304945271969252:=0
def tw13084766325868180797:=0
def tw13170545436091529386:=0
def tw13317281025859640274:=0
def tw13396712635773752089:=0
def tw13400750805302480022:=0
def tw13535171952968896643:=0
def tw13535689724587673509:=0
def tw13572419097063489091:=0
def tw1363958261488549116:=0
def tw13675479462272127500:=0
def tw13692605972087340980:=0
def tw13704316194531581736:=0
def tw13718659306280364190:=0
def tw13728085196838708065:=0
def tw13782952531464521197:=0
def tw13791788942665593692:=0
def tw13846138425222034430:=0
def tw13896149351658492831:=0
def tw13912027730312579524:=0
def tw13978322947575270659:=0
def tw1399890165935371088:=0
def tw14004038491343373053:=0
def tw14086183377111088302:=0
def tw14134271369825168338:=0
def tw14158383533937001589:=0
def tw14222624022965829076:=0
def tw1423619860447895033:=0
def tw14237971903746650372:=0
def tw14275016701124209995:=0
def tw14377078588973941155:=0
def tw14380771526433027944:=0
def tw14485090360621745443:=0
def tw1452202556126336799:=0
def tw14584606572410996578:=0
def tw1460042492652104793:=0
def tw1466475938265741693:=0
def tw14740748064644627977:=0
def tw14803143229279532992:=0
def tw14803623175058663064:=0
def tw14824548969742477006:=0
def tw14840766741607665743:=0
def tw14898937774802294041:=0
def tw15138134646104276546:=0
def tw15238374003540540525:=0
def tw15310937884864625777:=0
def tw15393446336078317761:=0
def tw15414505077850648573:=0
def tw15436981644037362275:=0
def tw15522658588915904688:=0
def tw15524010976291756515:=0
def tw1552583436085616343:=0
def tw15527148722662085012:=0
def tw15530481758471563930:=0
def tw15558100374240178708:=0
def tw15570521106684208261:=0
def tw15570845067984092110:=0
def tw1560447816227359718:=0
def tw15728160473433542250:=0
def tw15757716413308677841:=0
def tw15973126200426612003:=0
def tw15979604850265648250:=0
def tw1608565830445536546:=0
def tw16190122751868395740:=0
def tw16306397095243021198:=0
def tw16348109393221647056:=0
def tw16370390895644813278:=0
def tw16380941139816141353:=0
def tw16400819800286320455:=0
def tw16431333516124671064:=0
def tw16449322210225620286:=0
def tw16449876158870896984:=0
def tw16813984825499892316:=0
def tw16877213870195784469:=0
def tw16898370559433235966:=0
def tw16954511735351629217:=0
def tw1703763963984585853:=0
def tw17090180954254946112:=0
def tw17206522542177459935:=0
def tw17212777094403245393:=0
def tw17224546964289879895:=0
def tw17287900383911115258:=0
def tw17425259490621976077:=0
def tw17494897271084761450:=0
def tw1765788029606495431:=0
def tw17694211749555765000:=0
def tw17701311015543741968:=0
def tw1772022704294585223:=0
def tw17765268457970694137:=0
def tw17778084351672348077:=0
def tw17823811529864389376:=0
def tw17850746290021413284:=0
def tw17861184035471503668:=0
def tw17862978341154643737:=0
def tw17872332348625010396:=0
def tw18075423846354690579:=0
def tw1809717700299959345:=0
def tw18109322489441114588:=0
def tw18123590948973290066:=0
def tw18124939043268281830:=0
def tw18203081456280307492:=0
def tw18217085105401915870:=0
def tw18337191262106411332:=0
def tw18359807328655694023:=0
def tw1838196312511394169:=0
def tw1867715725474804830:=0
def tw1922214767648490701:=0
def tw2043456310467062397:=0
def tw2071628349918566322:=0
def tw2110803004319759270:=0
def tw2182156580458653865:=0
def tw2195551060865990522:=0
def tw223331566565440148:=0
def tw2265437016345385147:=0
def tw2291744949017056072:=0
def tw237544722147574624:=0
def tw2439163235353871350:=0
def tw2492624016135516194:=0
def tw251065782103721742:=0
def tw2560044858192843460:=0
def tw2576995982337568074:=0
def tw2581004013941336516:=0
def tw2621865701290748864:=0
def tw2698426348718107631:=0
def tw2927155299491663887:=0
def tw2930627715978387930:=0
def tw2938678707099708222:=0
def tw3036236136076832527:=0
def tw3072304977775634160:=0
def tw3142370503655382007:=0
def tw3156137174884404016:=0
def tw3193046242107113178:=0
def tw3209237166495835737:=0
def tw3290528018583199824:=0
def tw3322589120051419709:=0
def tw3349138980799303297:=0
def tw3359743266631963593:=0
def tw3384008943075220549:=0
def tw3421894765537594680:=0
def tw342194378966866610:=0
def tw3512065847084877733:=0
def tw3633345390326996160:=0
def tw3701042248832443731:=0
def tw3879726881540038236:=0
def tw3882449198170612903:=0
def tw3905300883301858668:=0
def tw391392209324153616:=0
def tw3916109203695473156:=0
def tw3920888823418848818:=0
def tw3975383379817761058:=0
def tw4003565813975180083:=0
def tw4032537414008965011:=0
def tw4109387364589635028:=0
def tw4116805449891812245:=0
def tw4117157141062593911:=0
def tw4252605312974138203:=0
def tw4258646977629485416:=0
def tw4265430414587929816:=0
def tw4319365362204707173:=0
def tw432751531815231018:=0
def tw4367055987561095150:=0
def tw4468138745609067129:=0
def tw4510099127581018617:=0
def tw473362601898625067:=0
def tw4878052130554409093:=0
def tw504099234968647520:=0
def tw5423107644959854868:=0
def tw5486982411665030510:=0
def tw5542470546632378949:=0
def tw5613226783136208012:=0
def tw5662545647349669743:=0
def tw5698561192889619493:=0
def tw5704164678899123976:=0
def tw5708386974562343852:=0
def tw5775932205678523837:=0
def tw5827129569986351859:=0
def tw5866312064326249181:=0
def tw591261822348624819:=0
def tw5923171912213161118:=0
def tw5945154584241460359:=0
def tw6008538462009167292:=0
def tw6062489244850714757:=0
def tw6079345808778517780:=0
def tw6187222685535441790:=0
def tw6238968068422059471:=0
def tw6254655431266722031:=0
def tw6286735774518935728:=0
def tw6298672948948793205:=0
def tw6314601394219841331:=0
def tw6405203964879356166:=0
def tw6419063295246274221:=0
def tw6487243080798722151:=0
def tw6500380913902196805:=0
def tw6548714226912271452:=0
def tw6626598641607332607:=0
def tw6637871599346854290:=0
def tw6766072884382184645:=0
def tw6796864441426707782:=0
def tw6810500804113322515:=0
def tw6874081267429083886:=0
def tw6960493309868289187:=0
def tw6964721755864237016:=0
def tw6968366368665164740:=0
def tw6973804434416893826:=0
def tw6993303998366936977:=0
def tw7205253881699920887:=0
def tw7268645329249254177:=0
def tw7336851715185456827:=0
def tw7372937948888055024:=0
def tw7376502261930897019:=0
def tw7443895967869185786:=0
def tw7492451522834130054:=0
def tw7508275222605935899:=0
def tw7529329197822677344:=0
def tw7568487923704760787:=0
def tw7618938922993879685:=0
def tw7633988671631817760:=0
def tw7657424317566150467:=0
def tw7759152651266732640:=0
def tw7896046722764446687:=0
def tw7898317250662962268:=0
def tw7908295396927787893:=0
def tw8291622584420281232:=0
def tw8441817601514815456:=0
def tw8475093923706870569:=0
def tw8532512138883610740:=0
def tw8626007112728091610:=0
def tw869053208006565632:=0
def tw8736351964840162052:=0
def tw8847245467971128404:=0
def tw8909191170342401345:=0
def tw8913655055586979641:=0
def tw8941253928218114039:=0
def tw8971265048386408656:=0
def tw8984033095559406314:=0
def tw9024575646429050133:=0
def tw9030015087150434243:=0
def tw9072154634509682710:=0
def tw9160563765333940714:=0
def tw9172581535623643013:=0
def tw9205626286283610708:=0
def tw9211401218384343353:=0
def tw9415638836969426032:=0
def tw9436475467257381039:=0
def tw9551809737488320576:=0
def tw9620255424551109280:=0
def tw9781153319544510245:=0
def tw978433321986700792:=0
def tw9807794854082840175:=0
def tw9811199956556961410:=0
def tw9872653560447522861:=0
def tw9908523919228579013:=0
end PySem.W.Fast
open PySem PySem.W PyProof.Rows
set_option maxRecDepth 100000 in
set_option maxHeartbeats 0 in
theorem PySem.Challenge.cw_coverfill_k35_whole_group_of_fills_holds : PySem.Challenge.rw_coverfill_k35_whole_group_of_fills.Holds := by
  w_on; o_law; k_head; (case hw => w_witness2)
  k_fill
  refine DL.walkM (k := 79) (F := Q.FM60) (l := PySem.Challenge.rw_coverfill_k35_whole_group_of_fills) rfl rfl (by decide +kernel) (λ_ => rfl) ⟨rfl, by decide, by decide⟩ [(("thinned_covers" : PySem.Str), 328, 324), (("Fill.films" : PySem.Str), 390, 386), (("Join.films" : PySem.Str), 417, 413), (("Group.films" : PySem.Str), 444, 440)] ?hrec ?htl ?htk ?hnd ?hnt (λw h Y => PySem.W.km_in_of Y) ?F Q.law_true
  case hrec =>
    intro w h Y t ht
    simp only[List.mem_cons, List.not_mem_nil, or_false] at ht
    rcases ht with rfl | rfl | rfl | rfl
    · exact⟨PySem.W.codeHd_of_K (PySem.W.km_in_of Y) (by kernel_rfl), PySem.W.km_tabs_of Y _ (by decide)⟩
    · exact⟨PySem.W.codeHd_of_K (PySem.W.km_in_of Y) (by kernel_rfl), PySem.W.km_tabs_of Y _ (by decide)⟩
    · exact⟨PySem.W.codeHd_of_K (PySem.W.km_in_of Y) (by kernel_rfl), PySem.W.km_tabs_of Y _ (by decide)⟩
    · exact⟨PySem.W.codeHd_of_K (PySem.W.km_in_of Y) (by kernel_rfl), PySem.W.km_tabs_of Y _ (by decide)⟩
  case htl => exact λ_ => DL.tabs_of (by kernel_rfl) (by kernel_rfl) (by kernel_rfl) (by kernel_rfl)
  case htk => exact by decide
  case hnd => exact by decide
  case hnt => exact λ_ => by kernel_rfl
  case F =>
    intro w mg fa h KX G hmg
    refine' Q.all_mk KX G hmg (lc0 := 328) (lp0 := 324) (by kernel_rfl) (lc1 := 390) (lp1 := 386) (by kernel_rfl) (lc2 := 417) (lp2 := 413) (by kernel_rfl) (lc3 := 444) (lp3 := 440) (by kernel_rfl) (DL.ft ?_ ?_ ?_ ?_) (DL.ft ?_ ?_ ?_ ?_) (DL.ft ?_ ?_ ?_ ?_) (DL.ft ?_ ?_ ?_ ?_) (DL.ft ?_ ?_ ?_ ?_) (DL.ft ?_ ?_ ?_ ?_) (DL.ft ?_ ?_ ?_ ?_) (DL.ft ?_ ?_ ?_ ?_) (DL.ft ?_ ?_ ?_ ?_) (DL.ft ?_ ?_ ?_ ?_) (DL.ft ?_ ?_ ?_ ?_) (DL.ft ?_ ?_ ?_ ?_) (DL.ft ?_ ?_ ?_ ?_) (DL.ft ?_ ?_ ?_ ?_) (DL.ft ?_ ?_ ?_ ?_) (DL.ft ?_ ?_ ?_ ?_) (DL.ft ?_ ?_ ?_ ?_) (DL.ft ?_ ?_ ?_ ?_) (DL.ft ?_ ?_ ?_ ?_) (DL.ft ?_ ?_ ?_ ?_) (DL.ft ?_ ?_ ?_ ?_) (DL.ft ?_ ?_ ?_ ?_) (DL.ft ?_ ?_ ?_ ?_) (DL.ft ?_ ?_ ?_ ?_) (DL.ft ?_ ?_ ?_ ?_) (DL.ft ?_ ?_ ?_ ?_) (DL.ft ?_ ?_ ?_ ?_) (DL.ft ?_ ?_ ?_ ?_) (DL.ft ?_ ?_ ?_ ?_) (DL.ft ?_ ?_ ?_ ?_) (DL.ft ?_ ?_ ?_ ?_) (DL.ft ?_ ?_ ?_ ?_) (DL.ft ?_ ?_ ?_ ?_) (DL.ft ?_ ?_ ?_ ?_) (DL.ft ?_ ?_ ?_ ?_) (DL.ft ?_ ?_ ?_ ?_) (DL.ft ?_ ?_ ?_ ?_) (DL.ft ?_ ?_ ?_ ?_) (DL.ft ?_ ?_ ?_ ?_) (DL.ft ?_ ?_ ?_ ?_) (DL.ft ?_ ?_ ?_ ?_) (DL.ft ?_ ?_ ?_ ?_) (DL.ft ?_ ?_ ?_ ?_) (DL.ft ?_ ?_ ?_ ?_) (DL.ft ?_ ?_ ?_ ?_) (DL.ft ?_ ?_ ?_ ?_) (DL.ft ?_ ?_ ?_ ?_) (DL.ft ?_ ?_ ?_ ?_) (DL.ft ?_ ?_ ?_ ?_) (DL.ft ?_ ?_ ?_ ?_) (DL.ft ?_ ?_ ?_ ?_) (DL.ft ?_ ?_ ?_ ?_) (DL.ft ?_ ?_ ?_ ?_) (DL.ft ?_ ?_ ?_ ?_) (DL.ft ?_ ?_ ?_ ?_) (DL.ft ?_ ?_ ?_ ?_) (DL.ft ?_ ?_ ?_ ?_) (DL.ft ?_ ?_ ?_ ?_) (DL.ft ?_ ?_ ?_ ?_) (DL.ft ?_ ?_ ?_ ?_) ?a60 ?l60 ?c60 ?k60 ?z0 ?z1 ?z2 ?z3 ?z4 ?z5 ?z6 ?z7 ?z8 ?z9 ?z10 ?ca0 ?cl0 ?cv0 ?ca1 ?cl1 ?cv1 ?ca2 ?cl2 ?cv2 (DL.uc ?_ ?_ ?_ ?_ ?_ ?_ ?_ (DL.nfc ?_ (DL.nfc ?_ (DL.nfc ?_ DL.nf0)))) (DL.uc ?_ ?_ ?_ ?_ ?_ ?_ ?_ (DL.nfc ?_ (DL.nfc ?_ DL.nf0))) (DL.uc ?_ ?_ ?_ ?_ ?_ ?_ ?_ (DL.nfc ?_ (DL.nfc ?_ DL.nf0))) ?m_q0 ?i_q0 ?l_q0 ?c_q0 ?k_q0 ?lT_q0 (DL.fq ?_ ?_ ?_ ?_ ?_) ?m_q2 ?i_q2 ?l_q2 ?c_q2 ?k_q2 ?lT_q2 (DL.fq ?_ ?_ ?_ ?_ ?_) ?m_q4 ?i_q4 ?l_q4 ?c_q4 ?k_q4 ?lT_q4 (DL.fq ?_ ?_ ?_ ?_ ?_)
    all_goals try k_is
    all_goals try k_is
    all_goals first | rfl | decide +kernel | k_exc | kit_is | kts_exm

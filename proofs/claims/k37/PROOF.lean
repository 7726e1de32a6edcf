import PyProof.Rows.All
import Wide.All
import OpenK.AllK
import Wide.FinOn
import Lean
import PySem.Challenge.RW_coverfill_k37_no_layer_no_place
set_option Elab.async false
set_option linter.all false
set_option maxRecDepth 100000
set_option maxHeartbeats 8000000
set_option compiler.extract_closed false
theorem zzf {p:Prop}(h:false=true):p:=nomatch h
theorem zzb (h:Nat.ble a b=true):a<=b:=Nat.le_of_ble_eq_true h
theorem zzg {O:Type _}{l:List O}{i:Nat}{a:O}(h:l[i]?=some a):∃ w:i<l.length,l[i]=a:=List.getElem?_eq_some_iff.mp h
noncomputable section
local macro_rules | `(tactic| walk_at "k")=>`(tactic| decide +kernel)
local macro_rules | `(tactic| walk_at "i")=>`(tactic| first | exact .inl rfl | exact .inr rfl | assumption)
set_option hygiene false
local macro_rules | `(tactic| omega)=>`(tactic| first | with_reducible assumption | with_reducible (first | exact Nat.le_of_lt ‹_› | exact Nat.lt_of_lt_of_le ‹_› ‹_› | exact Nat.lt_of_le_of_lt ‹_› ‹_› | exact Nat.le_trans ‹_› ‹_› | exact Nat.succ_le_of_lt ‹_› | exact Nat.lt_succ_of_le ‹_› | exact Nat.le_succ_of_le ‹_› | exact Nat.lt_succ_of_lt ‹_› | exact Nat.ne_of_lt ‹_› | exact Nat.ne_of_gt ‹_› | exact Nat.lt_of_lt_of_le ‹_› (by decide) | exact Nat.le_trans ‹_› (by decide) | exact Nat.le_trans (Nat.le_of_lt ‹_›) ‹_› | exact Nat.le_trans (Nat.le_of_lt ‹_›) (by decide)) | lia)
open Bool (and_eq_true)
open PySem.Heap (lt_size get?_push_of_some get?_push_size)
open Nat (le_refl le_trans ne_of_lt lt_irrefl zero_le lt_of_lt_of_le sub_self)
open Option (map_eq_some_iff)
open Int (toNat_natCast fmod_nonneg_of_pos)
open List (all_eq_true any_cons append_assoc append_nil filterMap_cons filter_cons flatten_cons forIn_cons getD_eq_getElem?_getD getElem?_append_left getElem?_append_right getElem?_eq_getElem getElem?_map getElem?_range getElem?_replicate getElem?_set_ne getElem?_set_self length_append length_cons length_range length_replicate length_set length_take lookup_cons map_append map_cons map_map map_nil mem_append mem_append_right mem_cons mem_cons_of_mem mem_cons_self mem_filter mem_map mem_nil_iff mem_of_getElem? mem_range mem_singleton nodup_append nodup_cons not_mem_nil of_mem_zip replicate_succ reverse_cons size_toArray)
def qx:=@Option.bind_some
def qy:=@decide_eq_true_eq
def qj:=@length_append
def qQ:=@PySem.wpAny_bind
def qX:=@Bool.false_ne_true
def qY:=@mem_cons_of_mem
def qJ:=@append_assoc
def xy:=@mem_cons_self
def xj:=@PySem.wpAny_pure
def xQ:=@mem_append_right
def xX:=@size_toArray
def xY:=@Option.some.inj
def xJ:=@lt_of_lt_of_le
def x8:=@fmod_nonneg_of_pos
def x9:=@length_cons
def yq:=@map_append
def yx:=@and_eq_true
def yj:=@map_eq_some_iff
section
namespace L2
open PySem Spec PyProof.Rows
abbrev Key:=Sum Int Str
noncomputable def zII:Key->Value->Bool
 | .inl k,v=>Value.isInt k v
 | .inr x,v=>Value.isStrOf x v
noncomputable def keyH (w:World):Key->Int
 | .inl k=>hashInt k
 | .inr x=>hashStr w x
theorem zAw:∀ {k:Key} {v:Value},zII k v=true->(∃ i t,k=Sum.inl i/\v=Value.int i t)\/(∃ x t,k=Sum.inr x/\v=Value.str x t)
 | .inl i,v,h=>by
  obtain⟨t,e⟩:=Value.isInt_shape (k:=i) (v:=v) h;exact .inl ⟨i,t,rfl,e⟩
 | .inr x,v,h=>by
  obtain⟨t,e⟩:=Value.isStrOf_shape (x:=x) (v:=v) h;exact .inr ⟨x,t,rfl,e⟩
theorem zJk (i:Int)(t:Tok):zII (.inl i) (.int i t)=true:=by simp[zII,Value.isInt]
theorem zJj (x:Str)(t:Tok):zII (.inr x) (.str x t)=true:=by simp[zII,Value.isStrOf]
theorem zRH (a b:Int):decide ((Sum.inl a:Key)=Sum.inl b)=(a==b):=by grind
theorem zRE (a b:Str):decide ((Sum.inr a:Key)=Sum.inr b)=decide (a=b):=by simp
theorem zRG (a:Int)(b:Str):decide ((Sum.inl a:Key)=Sum.inr b)=false:=rfl
theorem zRF (a:Str)(b:Int):decide ((Sum.inr a:Key)=Sum.inl b)=false:=rfl
noncomputable def zBP (prog:Program)(w:World):PySem.KeyKind prog w Key where
 is:=zII
 hash:=keyH w
 inj:=λv a b ha hb=>by
  rcases zAw ha with ⟨i,t,rfl,rfl⟩ | ⟨x,t,rfl,rfl⟩
  .rcases zAw hb with ⟨j,u,rfl,e⟩ | ⟨y,u,rfl,e⟩
   .injection e with e1 _;rw[e1]
   .exact nomatch e
  .rcases zAw hb with ⟨j,u,rfl,e⟩ | ⟨y,u,rfl,e⟩
   .exact nomatch e
   .injection e with e1 _;rw[e1]
 byValue:=λk v h=>by
  rcases zAw h with ⟨i,t,rfl,rfl⟩ | ⟨x,t,rfl,rfl⟩<;>rfl
 pyHash:=λhv h=>by
  rcases zAw hv with ⟨i,t,rfl,rfl⟩ | ⟨x,t,rfl,rfl⟩
  .exact wpAny_pyHash_int h
  .exact wpAny_pyHash_str h
 eqBool:=λhu hv h=>by
  rcases zAw hu with ⟨i,t,rfl,rfl⟩ | ⟨x,t,rfl,rfl⟩
  .rcases zAw hv with ⟨j,u,rfl,rfl⟩ | ⟨y,u,rfl,rfl⟩
   .rw [zRH] at h;exact wpAny_eqBool_int h
   .rw [zRG] at h;exact SeqAt.EqAt.int_str i t y u _ _ _ _ h
  .rcases zAw hv with ⟨j,u,rfl,rfl⟩ | ⟨y,u,rfl,rfl⟩
   .rw [zRF] at h;exact SeqAt.EqAt.str_int x t j u _ _ _ _ h
   .rw [zRE] at h;exact wpAny_eqBool_str h
 «strs»:=λk x t v h=>by
  rcases zAw h with ⟨i,u,rfl,e⟩ | ⟨y,u,rfl,e⟩
  .exact nomatch e
  .injection e with e1 _
   subst e1;cases v<;>rfl
theorem zGk (prog:Program)(w:World)(i:Int)(t:Tok):(zBP prog w).is (.inl i) (.int i t)=true:=zJk i t
theorem zGj (prog:Program)(w:World)(x:Str)(t:Tok):(zBP prog w).is (.inr x) (.str x t)=true:=zJj x t
end L2
namespace L2
open PySem Spec PyProof.Rows
inductive V where
 | non | bl (b:Bool) | int (i:Int) | str (x:Str) | byt (b:Array UInt8) | flt (b:UInt64) | ref (a:Addr) | ty (n:String)
 deriving DecidableEq
def RelV:V->Value->Prop
 | .non,u=>u=Value.none
 | .bl b,u=>u=Value.bool b
 | .int i,u=>∃ t,u=Value.int i t
 | .str x,u=>∃ t,u=Value.str x t
 | .byt b,u=>∃ t,u=Value.bytes b t
 | .flt b,u=>∃ t,u=Value.float b t
 | .ref a,u=>u=Value.ref a
 | .ty n,u=>u=Value.type n
abbrev Vals:List V->List Value->Prop:=Paired RelV
theorem Vals.length (r:Vals xs us):xs.length=us.length:=Paired.length r
theorem Vals.get:∀ {xs:List V} {us:List Value} {i:Nat} {x:V},Vals xs us->xs[i]?=some x->∃ u,us[i]?=some u/\RelV x u
 | _,_,_,_,.nil,e=>by simp at e
 | _,_,0,_,.cons r _,e=>by simp at e;subst e;exact⟨_,rfl,r⟩
 | _,_,i+1,x,.cons _ t,e=>by
  obtain⟨u,h1,h2⟩:=Vals.get (i:=i) (x:=x) t (by simpa using e);exact⟨u,by simpa using h1,h2⟩
theorem Vals.set (r:RelV x u):∀ {xs:List V} {us:List Value} (i:Nat),Vals xs us->Vals (xs.set i x) (us.set i u)
 | _,_,_,.nil=>.nil
 | _,_,0,.cons _ t=>.cons r t
 | _,_,i+1,.cons q t=>.cons q (Vals.set r i t)
theorem Vals.append:∀ {xs ys:List V} {us ws:List Value},Vals xs us->Vals ys ws->Vals (xs++ys) (us++ws)
 | _,_,_,_,.nil,s=>s
 | _,_,_,_,.cons r t,s=>.cons r (Vals.append t s)
theorem Vals.take:∀ {xs:List V} {us:List Value} (n:Nat),Vals xs us->Vals (xs.take n) (us.take n)
 | _,_,0,_=>.nil
 | _,_,_+1,.nil=>.nil
 | _,_,n+1,.cons r t=>.cons r (Vals.take n t)
theorem Vals.drop:∀ {xs:List V} {us:List Value} (n:Nat),Vals xs us->Vals (xs.drop n) (us.drop n)
 | _,_,0,r=>r
 | _,_,_+1,.nil=>.nil
 | _,_,n+1,.cons _ t=>Vals.drop n t
def RelO:Option V->Option Value->Prop
 | some v,some u=>RelV v u
 | none,none=>True
 | _,_=>False
def KV {f:Type}:List (f×V)->List (f×Value)->Prop:=Paired λ(p:f×V) (q:f×Value)=>p.1=q.1/\RelV p.2 q.2
noncomputable def kV:Key->V
 | .inl i=>.int i
 | .inr x=>.str x
set_option genSizeOf false in
set_option genInjectivity false in
inductive HO where
 /-- a list -/
 | lst (xs:List V)
 /-- a tuple (never changes) -/
 | tup (xs:List V)
 /-- a dict whose keys are ints and texts;one whose keys are tuples of ints and texts (the empty one is both) -/
 | dK (kvs:List (Key×V)) | dT (kvs:List (List Key×V))
 /-- a set of ints: its members,its size -/
 | set (S:Int->Bool) (n:Nat)
 /-- an instance of the class at C,its dict at dx,its attributes -/
 | ins (C dx:Addr) (fs:List (Str×V))
 /-- the dict of the instance at x -/
 | own (x:Addr)
 /-- the dict of an exception -/
 | xd (fs:List (Str×V))
 /-- a bound method,f of x -/
 | met (f x:Addr)
 /-- a range object lo,lo+1,.. below hi -/
 | rng (lo hi:Int)
 /-- a thing that is known to the object (the script;a dict while a loop walks it): read,never written while it is so -/
 | frz (o:Obj) (u:HO)
 /-- a code object's table: the codes of the defs made within,all of this name -/
 | tbl (q:Str)
 /-- any other thing,by what is true of its one object (a def of one's own: SetO a S n:=HO.ext λh=>..) -/
 | ext (g:Heap->Prop)
abbrev Hp:=Addr->Option HO
noncomputable def upd (H:Hp)(a:Addr)(o:HO):Hp:=λb=>if b=a then some o else H b
theorem zAJ :upd H a o a=some o:=by unfold upd;rw[if_pos rfl]
theorem zAI (h:b≠a):upd H a o b=H b:=by unfold upd;rw[if_neg h]
theorem zSr {H:Hp}(h:H a=some o)(h':H b=some u)(d:o≠u):a≠b:=by
 intro e;subst e;rw[h] at h';exact d (xY h')
theorem zAt {H:Hp}(h:H a=some o)(h':H b=none):a≠b:=by grind
section
variable (P:Program)(w:World)
def zK9 (o:Obj)(q:Str):Prop:=∃ vs t,o.data=.fields vs/\vs[1]?=some (.str q t)
def zBV (H:Hp)(h:Heap)(a:Addr):HO->Prop
 | .lst xs=>xs.length<=sizeLine/\∃ (its:List Value) (n:Nat),Vals xs its/\h.get? a=some { cls:=.type "list",data:=.seq its.toArray n }
 | .tup xs=>xs.length<=sizeLine/\∃ its:List Value,Vals xs its/\IsTup h a its.toArray
 | .dK kvs=>kvs.length<=sizeLine/\(a==sysModules)=false/\∃ vs,KV kvs vs/\h.DictOf (zBP P w) a vs
 | .dT kvs=>kvs.length<=sizeLine/\(a==sysModules)=false/\∃ xs:List (List Key×Addr×Value),
   Paired (λ(p:List Key×V) (q:List Key×Addr×Value)=>p.1=q.1/\H q.2.1=some (.tup (p.1.map kV))/\RelV p.2 q.2.2) kvs xs /\
   ∃ o es ep,h.get? a=some o/\o.ExactDict/\o.data=.dict es ep/\es.toList=xs.map (entryOfKey (tupleKind (zBP P w)))/\(xs.map (·.1)).Nodup
 | .set S n=>h.SetOf (intKind P w) a S n
 | .ins C dx fs=>H dx=some (.own a)/\fs.length<=1000/\dx≠a/\h.get? a=some (W.instObj C dx) /\
   ∃ mA,h.Ns1 dx mA/\(∀ f,RelO (fs.lookup f) (mA f))/\PySem.Within mA (fs.map (·.1))
 | .own _=>∃ o,h.get? a=some o
 | .xd fs=>∃ mA,h.Ns1 a mA/\∀ f,RelO (fs.lookup f) (mA f)
 | .rng lo hi=>∃ t u v,h.get? a=some { cls:=.type "range",data:=.fields #[.int lo t,.int hi u,.int 1 v] }
 | .frz o u=>h.get? a=some o/\zBV H h a u
 | .tbl q=>∃ ps:Array Value,h.get? a=some { cls:=.none,data:=.fields ps }/\TriplesOk ps.toList/\∀ pos cv,codeAmong pos ps.toList=some cv->∃ c oc u,cv=.ref c/\H c=some (.frz oc u)/\zK9 oc q
 | .met f x=>h.get? a=some (W.methodObj (.ref f) (.ref x))
 | .ext g=>g h/\(∃ o,h.get? a=some o)/\∀ h1 h2:Heap,g h1->(∀ o,h1.get? a=some o->h2.get? a=some o)->g h2
def HOk (H:Hp)(h:Heap):Prop:=∀ a o,H a=some o->zBV P w H h a o
end
section
variable {P:Program}{w:World}{H H':Hp}{h h':Heap}{a:Addr}{o:HO}
theorem zBV.lt (x:zBV P w H h a o):a < h.objs.size:=by
 cases o with
 | lst c=>obtain⟨_,_,_,_,e⟩:=x;exact lt_size e
 | tup c=>obtain⟨_,_,_,p⟩:=x;exact p.lt
 | dK b=>obtain⟨_,_,_,_,o,_,_,e,_⟩:=x;exact lt_size e
 | dT b=>obtain⟨_,_,_,_,o,_,_,e,_⟩:=x;exact lt_size e
 | set S n=>obtain⟨o,_,_,_,e,_⟩:=x;exact lt_size e
 | ins C d fs=>obtain⟨_,_,_,e,_⟩:=x;exact lt_size e
 | own y=>obtain⟨_,e⟩:=x;exact lt_size e
 | xd fs=>obtain⟨_,⟨_,_,_,e,_⟩,_⟩:=x;exact lt_size e
 | rng j i=>obtain⟨_,_,_,e⟩:=x;exact lt_size e
 | frz ob u=>obtain⟨e,_⟩:=x;exact lt_size e
 | tbl q=>obtain⟨k,e,_⟩:=x;exact lt_size e
 | met f y=>exact lt_size (show h.get? a=some _ from x)
 | ext g=>obtain⟨_,⟨_,e⟩,_⟩:=x;exact lt_size e
theorem Paired.mapP {O T:Type}{F G:O->T->Prop}:∀ {Z6:List O} {Z7:List T},Paired F Z6 Z7->(∀ a b,F a b->G a b)->Paired G Z6 Z7
 | _,_,.nil,_=>.nil
 | _,_,.cons r t,f=>.cons (f _ _ r) (Paired.mapP t f)
theorem zBV.stay (x:zBV P w H h a o)(k:∀ b u,(b=a\/H b=some (.own a))->h.get? b=some u->h'.get? b=some u)
  (G:∀ b,H b=some (.own a)->H' b=some (.own a)) (K:∀ b xs,H b=some (.tup xs)->H' b=some (.tup xs)) (F:∀ b ob u,H b=some (.frz ob u)->(∃ vs,ob.data=.fields vs)->H' b=some (.frz ob u)):zBV P w H' h' a o:=by
 induction o with
 | lst xs=>obtain⟨z,j,n,r,e⟩:=x;exact⟨z,j,n,r,k _ _ (.inl rfl) e⟩
 | tup xs=>obtain⟨z,j,r,ob,e,c⟩:=x;exact⟨z,j,r,ob,k _ _ (.inl rfl) e,c⟩
 | dK m=>obtain⟨z,y,vs,r,ob,es,i,e,c⟩:=x;exact⟨z,y,vs,r,ob,es,i,k _ _ (.inl rfl) e,c⟩
 | dT m =>
  obtain⟨z,y,xs,r,ob,es,i,e,c⟩:=x;exact⟨z,y,xs,Paired.mapP r λp q z=>⟨z.1,K _ _ z.2.1,z.2.2⟩,ob,es,i,k _ _ (.inl rfl) e,c⟩
 | set S n=>obtain⟨ob,es,i,t,e,c⟩:=x;exact⟨ob,es,i,t,k _ _ (.inl rfl) e,c⟩
 | ins C L fs =>
  obtain⟨d,z,D,e,l,⟨s,es,i,A,c⟩,r⟩:=x;exact⟨G _ d,z,D,k _ _ (.inl rfl) e,l,⟨s,es,i,k _ _ (.inr d) A,c⟩,r⟩
 | own y=>obtain⟨ob,e⟩:=x;exact⟨ob,k _ _ (.inl rfl) e⟩
 | xd fs=>obtain⟨l,⟨s,es,i,e,c⟩,r⟩:=x;exact⟨l,⟨s,es,i,k _ _ (.inl rfl) e,c⟩,r⟩
 | rng M N=>obtain⟨t,u,v,e⟩:=x;exact⟨t,u,v,k _ _ (.inl rfl) e⟩
 | frz ob u B=>obtain⟨e,q⟩:=x;exact⟨k _ _ (.inl rfl) e,B q⟩
 | tbl q =>
  obtain⟨E,e,t,c⟩:=x;exact⟨E,k a _ (.inl rfl) e,t,λpos I z=>let ⟨c1,oc,u,e1,A,e3⟩:=c pos I z;⟨c1,oc,u,e1,F _ _ _ A (let ⟨vs,_,d,_⟩:=e3;⟨vs,d⟩),e3⟩⟩
 | met f y =>
  have e:=x;exact k a _ (.inl rfl) e
 | ext g=>obtain⟨p,⟨o,e⟩,st⟩:=x;exact⟨st _ _ p λo q=>k _ _ (.inl rfl) q,⟨o,k _ _ (.inl rfl) e⟩,st⟩
theorem HOk.lt (x:HOk P w H h)(e:H a=some o):a < h.objs.size:=(x a o e).lt
theorem HOk.fresh (x:HOk P w H h)(e:h.objs.size<=a):H a=none:=by
 cases q:H a with
 | none=>rfl
 | some u=>exact absurd (xJ (x.lt q) e) (lt_irrefl _)
theorem HOk.kept (x:HOk P w H h)(k:∀ b u,h.get? b=some u->h'.get? b=some u):HOk P w H h':=λa o e =>
 (x a o e).stay (λb u _ q=>k b u q) (λ_ q=>q) (λ_ _ q=>q) λ_ _ _ q _=>q
theorem HOk.laid (x:HOk P w H h)(k:∀ b u,h.get? b=some u->h'.get? b=some u)(f:h.objs.size<=a)(new:zBV P w (upd H a o) h' a o):HOk P w (upd H a o) h':=λb u e=>by
 have d:=x.fresh f;by_cases hb:b=a
 .subst hb;rw[zAJ] at e;cases e;exact new
 .rw [zAI hb] at e;exact(x b u e).stay (λc v _ q=>k c v q) (λc q=>by rw[zAI (zAt q d)];exact q) (λc g q=>by rw[zAI (zAt q d)];exact q) λc ob u q _=>by rw[zAI (zAt q d)];exact q
end
def Rd (H:Hp)(a:Addr)(u:HO):Prop:=H a=some u\/∃ o,H a=some (.frz o u)
theorem Rd.ok (r:Rd H a u)(x:HOk P w H h):zBV P w H h a u:=by
 rcases r with r | ⟨o,r⟩
 .exact x a u r
 .obtain ⟨_,q⟩:=x a _ r;omega
def Mut:Option HO->Prop
 | some (.lst _)=>True
 | some (.dK _)=>True
 | some (.dT _)=>True
 | some (.set _ _)=>True
 | some (.ins _ _ _)=>True
 | some (.ext _)=>True
 | _=>False
section
variable {P:Program}{w:World}{H:Hp}{h h':Heap}{x e:Addr}{o':HO}
theorem HOk.write (ok:HOk P w H h)(mu:Mut (H x))(j:e=x\/H e=some (.own x))(k:∀ b u,b≠e->h.get? b=some u->h'.get? b=some u)(d:∃ u,h'.get? e=some u)
  (new:zBV P w (upd H x o') h' x o'):HOk P w (upd H x o') h':=λb u q=>by
 have a:∀ c y,H c=some (.own y)->c≠x:=λc y r z=>by subst z;rw[r] at mu;exact mu
 by_cases hb:b=x
 .subst hb;rw[zAJ] at q;cases q;exact new
 .rw [zAI hb] at q;by_cases hbe:b=e
  .have g:H b=some (.own x):=by
    grind
   rw[q] at g;cases g;obtain⟨v,l⟩:=d;exact⟨v,by rw[hbe];exact l⟩
  .refine (ok b u q).stay (λc v f r=>k c v ?_ r) (λc r=>by rw[zAI (a c b r)];exact r) (λc i r=>by rw[zAI ((λc i r z=>by subst z;rw[r] at mu;exact mu) c i r)];exact r) λc ob v r _=>by rw[zAI ((λc ob v r z=>by subst z;rw[r] at mu;exact mu) c ob v r)];exact r
   rcases f with rfl | f
   .exact hbe
   .rintro rfl;rcases j with z | z
    .grind
    .rw [f] at z;cases z;exact hb rfl
end
structure Un (fs ex:List Addr)(H H':Hp)(h h':Heap):Prop where
 keep:∀ b o,h.get? b=some o->H b=none->b∉fs->b∉ex->h'.get? b=some o
 slot:∀ b o,h.get? b=some o->H b=none->b∈fs->b∉ex->∃ sl,h'.get? b=some { o with slots:=sl }
 free:∀ b o,h.get? b=some o->H b=none->b∉ex->H' b=none
 there:∀ b o,h.get? b=some o->b∉ex->∃ o',h'.get? b=some o'
 tups:∀ b xs,H b=some (.tup xs)->H' b=some (.tup xs)
 frzs:∀ b o u,H b=some (.frz o u)->H' b=some (.frz o u)
 tbls:∀ b q,H b=some (.tbl q)->H' b=some (.tbl q)
section
variable {fs fs' ex ex':List Addr}{H H1 H2:Hp}{h h1 h2 h':Heap}{a x e:Addr}{o:HO}
theorem Un.any (u:Un fs ex H H1 h h1)(q:h.get? b=some ob)(n:H b=none)(a:b∉ex):∃ sl,h1.get? b=some { ob with slots:=sl }:=by
 by_cases hb:b∈fs
 .exact u.slot b ob q n hb a
 .exact ⟨ob.slots,u.keep b ob q n hb a⟩
theorem Un.trans (a:Un fs ex H H1 h h1)(b:Un fs ex H1 H2 h1 h2):Un fs ex H H2 h h2 where
 keep:=λc ob q n e d=>b.keep c ob (a.keep c ob q n e d) (a.free c ob q n d) e d
 slot:=λc ob q n e d=>by
  obtain⟨sl,f⟩:=a.slot c ob q n e d;obtain⟨j,l⟩:=b.slot c _ f (a.free c ob q n d) e d;exact⟨j,l⟩
 free:=λc ob q n d=>by
  obtain⟨i,f⟩:=a.there c ob q d;exact b.free c i f (a.free c ob q n d) d
 there:=λc ob q d=>by
  obtain⟨i,f⟩:=a.there c ob q d;exact b.there c i f d
 tups:=λc g q=>b.tups c g (a.tups c g q)
 frzs:=λc ob g q=>b.frzs c ob g (a.frzs c ob g q)
 tbls:=λc k q=>b.tbls c _ (a.tbls c k q)
theorem Un.kept (k:∀ b u,h.get? b=some u->h'.get? b=some u):Un fs ex H H h h' :=
 ⟨λb ob q _ _ _=>k b ob q,λb ob q _ _ _=>⟨ob.slots,k b ob q⟩,λ_ _ _ n _=>n,λb ob q _=>⟨ob,k b ob q⟩,λ_ _ q=>q,λ_ _ _ q=>q,λ_ _ q=>q⟩
theorem Un.refl:Un fs ex H H h h:=Un.kept λ_ _ q=>q
theorem Un.laid (k:∀ b u,h.get? b=some u->h'.get? b=some u)(e:h.objs.size<=a)(c:H a=none):Un fs ex H (upd H a o) h h' where
 keep:=λb u q _ _ _=>k b u q
 slot:=λb u q _ _ _=>⟨u.slots,k b u q⟩
 free:=λb u q n _=>by rw[zAI (ne_of_lt (xJ (lt_size q) e))];exact n
 there:=λb u q _=>⟨u,k b u q⟩
 tups:=λb d q=>by rw[zAI (zAt q c)];exact q
 frzs:=λb u d q=>by rw[zAI (zAt q c)];exact q
 tbls:=λb f q=>by rw[zAI (zAt q c)];exact q
theorem Un.write (mu:Mut (H x))(j:e=x\/H e=some (.own x))(k:∀ b u,b≠e->h.get? b=some u->h'.get? b=some u)(d:∃ u,h'.get? e=some u):Un fs ex H (upd H x o) h h':=by
 have g:∀ b,H b=none->b≠x:=λb n z=>by subst z;rw[n] at mu;exact mu
 have c:∀ b,H b=none->b≠e:=λb n z=>by
  grind
 have a:∀ b u,H b=some u->¬ Mut (some u)->b≠x:=λb u q nm z=>by subst z;rw[q] at mu;exact nm mu
 refine⟨λb u q n _ _=>k b u (c b n) q,λb u q n _ _=>⟨u.slots,k b u (c b n) q⟩,λb u q n _=>by rw[zAI (g b n)];exact n,λb u q _=>?_,
  λb f q=>by rw[zAI (a b _ q λz=>z)];exact q,λb u f q=>by rw[zAI (a b _ q λz=>z)];exact q,λb i q=>by rw[zAI (a b _ q λz=>z)];exact q⟩
 grind
theorem Un.mono (u:Un fs ex H H1 h h1)(e:∀ b∈fs,b∈fs')(c:∀ b∈ex,b∈ex'):Un fs' ex' H H1 h h1 :=
 ⟨λb ob q n d a=>u.keep b ob q n (λz=>d (e b z)) λz=>a (c b z),λ_ _ q n _ a=>u.any q n λz=>a (c _ z),λb ob q n a=>u.free b ob q n λz=>a (c b z),λb ob q a=>u.there b ob q λz=>a (c b z),u.tups,u.frzs,u.tbls⟩
end
noncomputable def trk (h:Heap)(H:Hp):List Addr:=(List.range h.objs.size).filter λa=>(H a).isSome
noncomputable def hidT (h:Heap)(H:Hp):Heap:=W.hideAll h (trk h H)
theorem zLx (e:h.get? b=some o)(n:H b=none):(hidT h H).get? b=some o :=
 W.hideAll_get _ e λhm=>by
  have q:=(mem_filter.mp hm).2;grind
theorem zOa (e:(hidT h H).get? b=some o):h.get? b=some o/\H b=none:=by
 have a:=W.of_hideAll _ e
 simp_all
 cases q:H b with
 | none=>rfl
 | some x =>
  have z:(hidT h H).get? b=none:=W.hideAll_none _ (mem_filter.mpr ⟨mem_range.mpr (lt_size a),by simp[q]⟩);grind
end L2
namespace L2
open PySem Spec PyProof.Rows
noncomputable def zBe:List Str:=["thinned_covers","Fill.films","Join.films","Group.films","Picture.renew"]
noncomputable def lamQ (x:Str):Str:=x ++ ".<locals>." ++ "<lambda>"
noncomputable def zLl:List (Str×Str×Str):=[("Fill.films","Fill","films"),("Join.films","Join","films"),("Group.films","Group","films"),("Picture.renew","Picture","renew")]
noncomputable def zP3 (K:W.Frag)(f:Addr):Option (Addr×Addr):=match K.lookup f with
 | some ⟨_,_,.func fd,_⟩=>(match fd.code with
  | .ref c=>(match K.lookup c with
   | some ⟨_,_,.fields vs,_⟩=>(match (vs[11]?:Option Value) with
    | some (.ref P)=>some (c,P)
    | _=>none)
   | _=>none)
  | _=>none)
 | _=>none
noncomputable def zER (K:W.Frag)(x:Str):Option Addr:=match zLl.lookup x with
 | some (c,m)=>(match W.nsIn K mainGlobals c with
  | some (some (.ref C))=>(match W.findIn K (.ref C) m with
   | some (some (.ref f))=>some f
   | _=>none)
  | _=>none)
 | none=>(match W.nsIn K mainGlobals x with
  | some (some (.ref f))=>some f
  | _=>none)
noncomputable def tabQ (K:W.Frag)(x:Str):Option (Addr×Addr):=(zER K x).bind (zP3 K)
theorem zFc {K:W.Frag}(a:tabQ K x=some (c,P))(g:zER K x=some f)(b:K.lookup f=some ⟨oc,od,.func fd,sl⟩):fd.code=.ref c:=by
 unfold tabQ at a
 simp_all
 unfold zP3 at a;rw[b] at a
 simp_all
 split at a
 .rename_i d e;split at a
  .split at a
   .grind
   .cases a
  .cases a
 .cases a
structure Mod (K:W.Frag)(mg:Str->Option Value)(base:Heap):Prop where
 kin:K.In base
 glob:base.Ns mainGlobals mg
 blt:∃ mb,base.Ns builtinsNs mb/\∀ x:Str,x ≠ "__name__"->mb x=bootBuiltins x
 nolimit:base.NoLimit
 seer:base.NoSeer
 bm:∃ bm ob,mg "__builtins__"=some (.ref bm)/\bm≠builtinsNs/\base.get? bm=some ob/\ob.cls=.type "module"/\ob.dict=some builtinsNs/\ob.data=.plain
 codes:∀ x∈zBe,∀ c P,tabQ K x=some (c,P)->W.CodeHd base c P
def zHq (K:W.Frag)(H:Hp):Prop:=∀ x∈zBe,∀ c P,tabQ K x=some (c,P)->H P=some (.tbl (lamQ x))
structure Cx where
 prog:Program
 w:World
 K:W.Frag
 mg:Str->Option Value
 base:Heap
 A:Around
 N:List Str
 s0:Shared
 Y5:Hp
 env:Env
 outer:List Env
 stack:List Env
 ex:List Addr
 fn:Str->Bool
 calm:Bool
 pn:List (Addr×Obj)
 xe:Value->Shared->Prop
noncomputable def frs (l:List Env):List Addr:=l.filterMap (·.frame)
abbrev Cx.fs (X:Cx):List Addr:=frs X.outer
def Vis (sc:Scope)(x:Str):Prop:=sc.names.lookup x=some .local\/sc.names.lookup x=some .cell\/sc.names.lookup x=some .free
def Loc (sc:Scope)(x:Str):Prop:=sc.names.lookup x=some .local\/sc.names.lookup x=some .cell
def Look (env:Env)(h:Heap)(m:Str->Option Value)(x:Str)(u:Value):Prop :=
 (env.kindOf x=some .local/\m x=some u)\/((env.kindOf x=some .cell\/env.kindOf x=some .free)/\∃ c,env.cells.lookup x=some c/\h.IsCell c (some u))
structure Cx.Ok (X:Cx):Prop where
 mod:Mod X.K X.mg X.base
 kind:X.env.scope.kind=.function
 glob:X.env.globals=mainGlobals
 blt:X.env.builtins=builtinsNs
 above:X.s0.heap.objs.size<=X.env.locals
 inj:∀ x y c,X.env.cells.lookup x=some c->X.env.cells.lookup y=some c->x=y
 has:∀ x,(X.env.kindOf x=some .cell\/X.env.kindOf x=some .free)->∃ c,X.env.cells.lookup x=some c
 cab:∀ x c,X.fn x=true->X.env.cells.lookup x=some c->X.s0.heap.objs.size<=c
 hd:X.calm=true->X.A.handled=none
 frames:X.A.frames=some X.stack
 stk:X.stack=X.outer\/(X.stack=X.env::X.outer/\X.env.frame=some X.env.locals)
 exf:∀ b∈X.ex,b≠X.env.locals/\∀ x c,X.env.cells.lookup x=some c->c≠b
 bs:∀ b o,X.base.get? b=some o->X.s0.heap.get? b=some o/\X.Y5 b=none
 bsz:X.base.objs.size<=X.s0.heap.objs.size
 noex:∀ b o,X.base.get? b=some o->b∉X.ex
 exfs:∀ b∈X.ex,b∉X.fs
 funs:X.s0.heap.FunFrames X.base X.outer
 frf:∀ b∈X.fs,X.Y5 b=none
 pyl:X.A.depth+Builtin.pylongFrames < recursionLimit/\(model X.prog X.w).prog.given.tree=none/\∃ e l,X.stack=e::l/\e.scope.isGenerator=false/\e.scope.isCoroutine=false/\e.builtins=builtinsNs/\e.globals=mainGlobals
 tabs:zHq X.K X.Y5
structure Inv (X:Cx)(pins:List (Addr×Obj))(σ:List (Option V))(H:Hp)(s:Shared):Prop where
 ok:X.Ok
 os:s.os=X.s0.os
 bare:AllBare s.gens
 base:Un X.fs X.ex X.Y5 H X.s0.heap s.heap
 loc:∃ m,s.heap.Ns X.env.locals m/\∀ (i:Nat) (x:Str) (v:V),X.N[i]?=some x->σ[i]?=some (some v)->Vis X.env.scope x->∃ u,RelV v u/\Look X.env s.heap m x u
 cell:∀ x c,X.env.cells.lookup x=some c->∃ v,s.heap.IsCell c v
 free:H X.env.locals=none
 freeC:∀ x c,X.env.cells.lookup x=some c->H c=none
 pin:∀ p∈X.pn++pins,s.heap.get? p.1=some p.2/\H p.1=none/\p.1≠X.env.locals/\p.1∉X.fs/\∀ v,p.2.data≠.cell v
 hok:HOk X.prog X.w H s.heap
 len:σ.length=X.N.length
section
variable {X:Cx}{pins:List (Addr×Obj)}{σ:List (Option V)}{H H':Hp}{s:Shared}{h':Heap}
theorem Cx.Ok.nofr (ok:X.Ok)(e:X.base.get? b=some o):b∉X.fs:=λhb=>by
 have:=(ok.funs.mem hb).1;grind
theorem Inv.bs (I:Inv X pins σ H s):∀ b o,X.base.get? b=some o->s.heap.get? b=some o/\H b=none:=λb o e =>
 ⟨I.base.keep b o (I.ok.bs b o e).1 (I.ok.bs b o e).2 (I.ok.nofr e) (I.ok.noex b o e),I.base.free b o (I.ok.bs b o e).1 (I.ok.bs b o e).2 (I.ok.noex b o e)⟩
theorem Inv.bk (I:Inv X pins σ H s):∀ b o,X.base.get? b=some o->s.heap.get? b=some o:=λb o e=>(I.bs b o e).1
theorem Inv.mod (I:Inv X pins σ H s):Mod X.K X.mg X.base:=I.ok.mod
theorem Inv.kIn (I:Inv X pins σ H s):X.K.In s.heap:=I.ok.mod.kin.keeps I.bk
theorem Inv.nolimit (I:Inv X pins σ H s):s.heap.NoLimit:=I.ok.mod.nolimit.keeps I.bk
theorem Inv.lt (I:Inv X pins σ H s):X.env.locals < s.heap.objs.size:=let ⟨_,hn,_⟩:=I.loc;hn.lt
theorem Inv.sz (I:Inv X pins σ H s):X.s0.heap.objs.size<=s.heap.objs.size:=le_trans I.ok.above (Nat.le_of_lt I.lt)
theorem Inv.nofs (I:Inv X pins σ H s){a:Addr}(h:s.heap.objs.size<=a):a∉X.fs:=λhb=>by
 obtain⟨_,o,b,_⟩:=I.ok.funs.mem hb;exact absurd (xJ (lt_size b) (le_trans I.sz h)) (lt_irrefl _)
theorem Inv.cne (I:Inv X pins σ H s):∀ x c,X.env.cells.lookup x=some c->c≠X.env.locals:=λx c e z=>by
 obtain⟨v,o,h,g⟩:=I.cell x c e;obtain⟨m,⟨d,es,f,b,a,_⟩,_⟩:=I.loc;grind
theorem Inv.funs (I:Inv X pins σ H s):s.heap.FunFrames X.base X.outer:=by
 have all:∀ (l:List Env),(∀ b∈frs l,b∈X.fs)->X.s0.heap.FunFrames X.base l->s.heap.FunFrames X.base l:=by
  intro l
  induction l with
  | nil=>intro _ _;trivial
  | cons env r g =>
   intro f h;obtain⟨j,⟨L,o,a,k,m,i⟩,hr⟩:=h;have c:L∈X.fs:=f L (by unfold frs;rw[filterMap_cons,a];exact xy);obtain⟨sl,e⟩:=I.base.slot L o m (I.ok.frf L c) c λz=>I.ok.exfs L z c
   exact⟨j,⟨L,_,a,k,e,i⟩,g (λb d=>f b (by unfold frs;rw[filterMap_cons,a];exact qY _ d)) hr⟩
 exact all X.outer (λ_ d=>d) I.ok.funs
theorem Inv.stack (I:Inv X pins σ H s):s.heap.FunFrames X.base X.stack:=by
 rcases I.ok.stk with e | ⟨e,hf⟩
 .rw [e];exact I.funs
 .rw [e];obtain⟨m,a,_⟩:=I.loc;refine .cons (by rw[I.ok.kind];decide) hf a ?_ I.funs;exact Heap.get?_none_of_le (le_trans I.ok.bsz I.ok.above)
theorem Inv.stkSub (I:Inv X pins σ H s):∀ b∈frs X.stack,b∈X.env.locals::X.fs:=λb a=>by
 rcases I.ok.stk with e | ⟨e,hf⟩
 .simp_all
 .rw [e] at a;unfold frs at a;rw[filterMap_cons,hf] at a;exact a
theorem Inv.stkFree (I:Inv X pins σ H s):∀ b∈frs X.stack,H b=none:=λb a=>by
 rcases mem_cons.mp (I.stkSub b a) with e | a
 .rw [e];exact I.free
 .obtain ⟨_,o,c,_⟩:=I.ok.funs.mem a;exact I.base.free b o c (I.ok.frf b a) λz=>I.ok.exfs b z a
theorem Inv.step {ch:List Addr}(I:Inv X pins σ H s)
  (h:∀ b∈ch,(b∈X.ex\/X.s0.heap.objs.size<=b)/\b≠X.env.locals/\(∀ x c,X.env.cells.lookup x=some c->c≠b)/\∀ p∈X.pn++pins,p.1≠b)
  (keep:∀ b o,b≠X.env.locals->b∉X.fs->b∉ch->s.heap.get? b=some o->H b=none->h'.get? b=some o)
  (t:∀ b o,b≠X.env.locals->b∈X.fs->b∉ch->s.heap.get? b=some o->H b=none->∃ sl,h'.get? b=some { o with slots:=sl }) (free:∀ b o,b∉ch->s.heap.get? b=some o->H b=none->H' b=none)
  (w:∀ b o,b∉ch->s.heap.get? b=some o->∃ o',h'.get? b=some o')
  (D:∀ b xs,H b=some (.tup xs)->H' b=some (.tup xs)) (F:∀ b o u,H b=some (.frz o u)->H' b=some (.frz o u)) (C:∀ b q,H b=some (.tbl q)->H' b=some (.tbl q))
  (ns:∀ m,s.heap.Ns X.env.locals m->h'.Ns X.env.locals m) (K:HOk X.prog X.w H' h') (U:AllBare g') :
  Inv X pins σ H' { s with heap:=h',gens:=g',drawn:=d',toks:=t' }:=by
 have E:∀ b o,X.s0.heap.get? b=some o->b≠X.env.locals:=λb o e=>ne_of_lt (xJ (lt_size e) I.ok.above)
 have j:∀ b o,X.s0.heap.get? b=some o->b∉X.ex->b∉ch:=λb o e a A=>by
  rcases(h b A).1 with z | z
  .exact a z
  .exact absurd (xJ (lt_size e) z) (lt_irrefl _)
 have g:∀ x c,X.env.cells.lookup x=some c->∀ v,s.heap.IsCell c v->h'.IsCell c v:=λx c e v M=>by
  obtain⟨o,B,J⟩:=M;have f:c∉ch:=λz=>(h c z).2.2.1 x c e rfl
  by_cases hc:c∈X.fs
  .obtain ⟨sl,q⟩:=t c o (I.cne x c e) hc f B (I.freeC x c e);exact⟨_,q,J⟩
  .exact ⟨o,keep c o (I.cne x c e) hc f B (I.freeC x c e),J⟩
 refine⟨I.ok,I.os,U,⟨λb o e n A a=>?_,λb o e n A a=>?_,λb o e n a=>?_,λb o e a=>?_,λb xs e=>D b xs (I.base.tups b xs e),λb o xs e=>F b o xs (I.base.frzs b o xs e),λb T e=>?_⟩,?_,λx c e=>?_,?_,λx c e=>?_,λp O=>?_,K,I.len⟩
 .exact keep b o (E b o e) A (j b o e a) (I.base.keep b o e n A a) (I.base.free b o e n a)
 .obtain ⟨sl,y⟩:=I.base.slot b o e n A a;obtain⟨L,G⟩:=t b _ (E b o e) A (j b o e a) y (I.base.free b o e n a);exact⟨L,G⟩
 .obtain ⟨o',y⟩:=I.base.there b o e a;exact free b o' (j b o e a) y (I.base.free b o e n a)
 .obtain ⟨o',y⟩:=I.base.there b o e a;exact w b o' (j b o e a) y
 .exact C b _ (I.base.tbls b T e)
 .obtain ⟨m,R,S⟩:=I.loc;refine⟨m,ns m R,λi x v y G Q=>?_⟩;obtain⟨u,r,l⟩:=S i x v y G Q;refine⟨u,r,?_⟩;rcases l with l | ⟨k,c,e,z⟩
  .exact .inl l
  .exact .inr ⟨k,c,e,g x c e _ z⟩
 .obtain ⟨v,z⟩:=I.cell x c e;exact⟨v,g x c e v z⟩
 .obtain ⟨m,⟨o,_,_,B,_⟩,_⟩:=I.loc;exact free _ o (λz=>(h _ z).2.1 rfl) B I.free
 .obtain ⟨v,o,B,J⟩:=I.cell x c e;exact free c o (λz=>(h c z).2.2.1 x c e rfl) B (I.freeC x c e)
 .obtain ⟨e,n,N,P,d⟩:=I.pin p O;have f:p.1∉ch:=λz=>(h p.1 z).2.2.2 p O rfl
  exact⟨keep p.1 p.2 N P f e n,free p.1 p.2 f e n,N,P,d⟩
theorem Inv.un (I:Inv X pins σ H s)(u:Un X.fs [] H H' s.heap h')(f:HOk X.prog X.w H' h'):Inv X pins σ H' { s with heap:=h',toks:=t' }:=by
 obtain⟨m,⟨o,es,p,h,r⟩,_⟩:=id I.loc;obtain⟨sl,k⟩:=u.any h I.free (by simp);exact I.step (ch:=[]) (λ_ z=>nomatch z) (λb o _ d _ e n=>u.keep b o e n d (by simp)) (λb o _ d _ e n=>u.slot b o e n d (by simp)) (λb o _ e n=>u.free b o e n (by simp)) (λb o _ e=>u.there b o e (by simp)) u.tups u.frzs u.tbls (λm' j=>by
  obtain⟨l,c,g,a,i⟩:=j;rw[h] at a;cases a;exact⟨_,c,g,k,i⟩) f I.bare
theorem Inv.call (I:Inv X pins σ H s)(u:Un (frs X.stack) ch H H' s.heap h')(j:HOk X.prog X.w H' h')(t:AllBare g')
  (d:∀ b∈ch,(b∈X.ex\/X.s0.heap.objs.size<=b)/\b≠X.env.locals/\(∀ x c,X.env.cells.lookup x=some c->c≠b)/\∀ p∈X.pn++pins,p.1≠b) :
  Inv X pins σ H' { s with heap:=h',gens:=g',drawn:=d',toks:=t' }:=by
 obtain⟨m,⟨o,es,w,k,r⟩,_⟩:=id I.loc;obtain⟨sl,g⟩:=u.any k I.free λz=>(d _ z).2.1 rfl
 exact I.step d (λb o g v a e n=>u.keep b o e n (λz=>(mem_cons.mp (I.stkSub b z)).elim g v) a) (λb o _ _ a e n=>u.any e n a) (λb o a e n=>u.free b o e n a) (λb o a e=>u.there b o e a) u.tups u.frzs u.tbls (λm' l=>by
  obtain⟨y,h,i,f,q⟩:=l;rw[k] at f;cases f;exact⟨_,h,i,g,q⟩) j t
theorem Inv.turned (I:Inv X pins σ H s)(k:∀ b o,b≠it->s.heap.get? b=some o->h'.get? b=some o)(t:H it=none)(d:it≠X.env.locals)
  (m:it∈X.ex\/X.s0.heap.objs.size<=it) (j:∀ x c,X.env.cells.lookup x=some c->c≠it) (i:∀ p∈X.pn++pins,p.1≠it):Inv X pins σ H { s with heap:=h',toks:=t' }:=by
 refine I.step (ch:=[it]) (λb h=>?_) (λb o _ _ a e _=>k b o (λz=>a (by grind)) e) (λb o _ _ a e _=>⟨o.slots,k b o (λz=>a (by simp[z])) e⟩) (λ_ _ _ _ n=>n)
  (λb o a e=>⟨o,k b o (λz=>a (by simp[z])) e⟩) (λ_ _ e=>e) (λ_ _ _ e=>e) (λ_ _ e=>e) (λm f=>?_) (λb u e=>?_) I.bare
 .have e:b=it:=by simpa using h
  subst e;exact⟨m,d,j,i⟩
 .obtain ⟨o,es,g,l,r⟩:=f;exact⟨o,es,g,k _ o (Ne.symm d) l,r⟩
 .refine (I.hok b u e).stay (λc v a q=>k c v ?_ q) (λ_ q=>q) (λ_ _ q=>q) λ_ _ _ q _=>q
  grind
theorem Inv.tabs (I:Inv X pins σ H s):zHq X.K H:=λx a c P e=>I.base.tbls _ _ (I.ok.tabs x a c P e)
theorem Inv.tok (I:Inv X pins σ H s)(t:Nat):Inv X pins σ H { s with toks:=t }:=I.un Un.refl I.hok
theorem Inv.kept (I:Inv X pins σ H s)(k:∀ b u,s.heap.get? b=some u->h'.get? b=some u):Inv X pins σ H { s with heap:=h',toks:=t' }:=I.un (Un.kept k) (I.hok.kept k)
theorem Inv.laid {a:Addr}{o:HO}{t':Nat}(I:Inv X pins σ H s)(k:∀ b u,s.heap.get? b=some u->h'.get? b=some u)(c:s.heap.objs.size<=a)(new:zBV X.prog X.w (upd H a o) h' a o) :
  Inv X pins σ (upd H a o) { s with heap:=h',toks:=t' }:=I.un (Un.laid k c (I.hok.fresh c)) (I.hok.laid k c new)
theorem Inv.write (I:Inv X pins σ H s)(mu:Mut (H x))(c:e=x\/H e=some (.own x))(k:∀ b u,b≠e->s.heap.get? b=some u->h'.get? b=some u)(a:∃ u,h'.get? e=some u)
  (new:zBV X.prog X.w (upd H x o) h' x o):Inv X pins σ (upd H x o) { s with heap:=h',toks:=t' }:=I.un (Un.write mu c k a) (I.hok.write mu c k a new)
theorem Inv.pins_of (I:Inv X pins σ H s)(h:∀ p∈pins',s.heap.get? p.1=some p.2/\H p.1=none/\p.1≠X.env.locals/\p.1∉X.fs/\∀ v,p.2.data≠.cell v):Inv X pins' σ H s :=
 ⟨I.ok,I.os,I.bare,I.base,I.loc,I.cell,I.free,I.freeC,λp a=>(mem_append.mp a).elim (λz=>I.pin p (List.mem_append_left _ z)) (h p),I.hok,I.len⟩
theorem zHO {N:List Str}(d:N.Nodup){j:Nat}{x:Str}(a:N[i]?=some x)(b:N[j]?=some x):i=j:=by
 obtain⟨f,e⟩:=zzg a;obtain⟨g,c⟩:=zzg b;exact(List.getElem_inj d).mp (e.trans c.symm)
theorem zIi (I:Inv X pins σ H s)(hN:X.N.Nodup)(L:X.N[i]?=some x)(w:Loc X.env.scope x)(r:RelV v u)
  (h:∀ s',Inv X pins (σ.set i (some v)) H s'->(∃ a,Heap.SameBut a s.heap s'.heap/\(a=X.env.locals\/X.env.cells.lookup x=some a))->Q () s') (hf:X.fn x=true\/X.env.scope.names.lookup x=some .local:=by walk_at "i"):wpAny M A (storeName X.env x u) Q E s:=by
 obtain⟨m,hn,hl⟩:=id I.loc;have Z8:i < σ.length:=by rw[I.len];exact(zzg L).1
 have cne:=I.cne;have l:∀ {a:Addr} {h':Heap},(∃ o,s.heap.get? a=some o/\H a=none)->Heap.SameBut a s.heap h'->HOk X.prog X.w H h':=λ{a h'} ha f b ob e=>by
  obtain⟨_,_,B⟩:=ha;refine(I.hok b ob e).stay (λc N t q=>(f.2 c ?_).trans q) (λ_ q=>q) (λ_ _ q=>q) λ_ _ _ q _=>q
  rintro rfl;rcases t with rfl | t
  .rw [B] at e;cases e
  .rw [B] at t;cases t
 rcases w with hk | hk
 .refine wpAny_storeName_local hk hn (λh' Y f=>?_) (by rw[I.ok.kind];rfl);obtain⟨oL,_,_,a2,_⟩:=id hn;refine h _ ⟨I.ok,I.os,I.bare,⟨λb o e n D w=>?_,λb o e n D w=>?_,I.base.free,λb o e w=>?_,I.base.tups,I.base.frzs,I.base.tbls⟩,⟨_,Y,λj y V g C S=>?_⟩,λy c e=>?_,I.free,I.freeC,λp hp=>?_,l ⟨oL,a2,I.free⟩ f,by simpa using I.len⟩ ⟨_,f,.inl rfl⟩
  .exact (f.2 b (ne_of_lt (xJ (lt_size e) I.ok.above))).trans (I.base.keep b o e n D w)
  .obtain ⟨sl,g⟩:=I.base.slot b o e n D w;exact⟨sl,(f.2 b (ne_of_lt (xJ (lt_size e) I.ok.above))).trans g⟩
  .obtain ⟨W,g⟩:=I.base.there b o e w;exact⟨W,(f.2 b (ne_of_lt (xJ (lt_size e) I.ok.above))).trans g⟩
  .by_cases hj:j=i
   .subst hj;rw[L] at g;cases g;rw[getElem?_set_self Z8] at C;cases C;exact⟨u,r,.inl ⟨hk,by simp⟩⟩
   .rw [getElem?_set_ne (Ne.symm hj)] at C;obtain⟨Z,U,q⟩:=hl j y V g C S;refine⟨Z,U,?_⟩;rcases q with ⟨k,e⟩ | ⟨k,c,e,z⟩
    .refine .inl ⟨k,?_⟩;have:y≠x:=λe=>hj (zHO hN g (e▸L))
     simp[this,e]
    .exact .inr ⟨k,c,e,z.sameBut f (cne y c e)⟩
  .obtain ⟨N,z⟩:=I.cell y c e;exact⟨N,z.sameBut f (cne y c e)⟩
  .obtain ⟨e,n,R,T,d⟩:=I.pin p hp;exact⟨(f.2 p.1 R).trans e,n,R,T,d⟩
 .have F:X.fn x=true:=by
   rcases hf with z | z
   .exact z
   .rw [z] at hk;cases hk
  obtain⟨c,t⟩:=I.ok.has x (.inl hk);obtain⟨N,z⟩:=I.cell x c t;refine wpAny_storeName_cell I.ok.kind hk t z (λh' G f=>?_);obtain⟨oc,J,K⟩:=id z;refine h { s with heap:=h' } ⟨I.ok,I.os,I.bare,⟨λb o e n D w=>?_,λb o e n D w=>?_,I.base.free,λb o e w=>?_,I.base.tups,I.base.frzs,I.base.tbls⟩,⟨m,hn.sameBut f (Ne.symm (cne x c t)),λj y V g C S=>?_⟩,λy O e=>?_,I.free,I.freeC,λp hp=>?_,l ⟨oc,J,I.freeC x c t⟩ f,by simpa using I.len⟩ ⟨c,f,.inr t⟩
  .exact (f.2 b (ne_of_lt (xJ (lt_size e) (I.ok.cab x c F t)))).trans (I.base.keep b o e n D w)
  .obtain ⟨sl,g⟩:=I.base.slot b o e n D w;exact⟨sl,(f.2 b (ne_of_lt (xJ (lt_size e) (I.ok.cab x c F t)))).trans g⟩
  .obtain ⟨W,g⟩:=I.base.there b o e w;exact⟨W,(f.2 b (ne_of_lt (xJ (lt_size e) (I.ok.cab x c F t)))).trans g⟩
  .by_cases hj:j=i
   .subst hj;rw[L] at g;cases g;rw[getElem?_set_self Z8] at C;cases C;exact⟨u,r,.inr ⟨.inl hk,c,t,G⟩⟩
   .rw [getElem?_set_ne (Ne.symm hj)] at C;obtain⟨Z,U,q⟩:=hl j y V g C S;refine⟨Z,U,?_⟩;rcases q with q | ⟨k,O,e,z'⟩
    .exact .inl q
    .refine .inr ⟨k,O,e,z'.sameBut f ?_⟩;rintro rfl;exact hj (zHO hN g (I.ok.inj _ _ _ e t▸L))
  .by_cases hcc:O=c
   .subst hcc;exact⟨_,G⟩
   .obtain ⟨w2,z2⟩:=I.cell y O e;exact⟨w2,z2.sameBut f hcc⟩
  .obtain ⟨e,n,R,T,d⟩:=I.pin p hp;refine⟨(f.2 p.1 ?_).trans e,n,R,T,d⟩;intro q;rw[q,J] at e;have q':oc=p.2:=xY e;exact d N (by rw[<- q'];exact K)
theorem zDf (I:Inv X pins σ H s)(d:X.N.Nodup)(c:X.N[i]?=some x)(a:Loc X.env.scope x)(r:RelV v u)
  (h:∀ s',Inv X pins (σ.set i (some v)) H s'->Q () s') (b:X.fn x=true\/X.env.scope.names.lookup x=some .local:=by walk_at "i"):wpAny M A (storeName X.env x u) Q E s :=
 zIi I d c a r (λs' e _=>h s' e) b
theorem Inv.call' (I:Inv X pins σ H s)(f:s'.os=s.os)(u:Un (frs X.stack) ch H H' s.heap s'.heap)(d:HOk X.prog X.w H' s'.heap)(e:AllBare s'.gens)
  (a:∀ b∈ch,(b∈X.ex\/X.s0.heap.objs.size<=b)/\b≠X.env.locals/\(∀ x c,X.env.cells.lookup x=some c->c≠b)/\∀ p∈X.pn++pins,p.1≠b):Inv X pins σ H' s':=by
 obtain⟨g,h,k,i,j⟩:=s';subst f;exact I.call u d e a
end
abbrev XK:=Value->Option Addr->Hp->Prop
abbrev St:=List (Option V)
abbrev VK:=V->Hp->Prop
abbrev TE:=St->Hp->VK->Prop
abbrev TT:=St->Hp->(Bool->Hp->Prop)->Prop
abbrev TA:=St->Hp->(List V->Hp->Prop)->Prop
structure Ends where
 nx:St->Hp->Prop
 rt:VK
 bk:St->Hp->Prop:=λ_ _=>False
 ct:St->Hp->Prop:=λ_ _=>False
abbrev TS:=Ends->St->Hp->Prop
def EP (X:Cx)(pins:List (Addr×Obj))(σ:St)(Q:VK)(u:Value)(s':Shared):Prop:=∃ v H',Inv X pins σ H' s'/\RelV v u/\Q v H'
def TP (X:Cx)(pins:List (Addr×Obj))(σ:St)(Q:Bool->Hp->Prop)(b:Bool)(s':Shared):Prop:=∃ H',Inv X pins σ H' s'/\Q b H'
def AP (X:Cx)(pins:List (Addr×Obj))(σ:St)(Q:List V->Hp->Prop)(us:List Value)(s':Shared):Prop:=∃ vs H',Inv X pins σ H' s'/\Vals vs us/\Q vs H'
def SP (X:Cx)(pins:List (Addr×Obj))(D:Ends)(f:Flow)(s':Shared):Prop :=
 match f with
 | .next=>∃ O1 H',Inv X pins O1 H' s'/\D.nx O1 H'
 | .brk=>∃ O1 H',Inv X pins O1 H' s'/\D.bk O1 H'
 | .cont=>∃ O1 H',Inv X pins O1 H' s'/\D.ct O1 H'
 | .ret u=>∃ v O1 H',Inv X pins O1 H' s'/\RelV v u/\D.rt v H'
def PE (X:Cx)(e:Expr)(t:TE):Prop :=
 ∀ (pins:List (Addr×Obj)) (s:Shared) (σ:St) (H:Hp) (Q:VK),Inv X pins σ H s->t σ H Q->wpAny (model X.prog X.w) X.A (eval e X.env) (EP X pins σ Q) X.xe s
def PT (X:Cx)(e:Expr)(t:TT):Prop :=
 ∀ (pins:List (Addr×Obj)) (s:Shared) (σ:St) (H:Hp) (Q:Bool->Hp->Prop),Inv X pins σ H s->t σ H Q->wpAny (model X.prog X.w) X.A (isTrue e X.env (eval e X.env)) (TP X pins σ Q) X.xe s
def PW (X:Cx)(e:Expr)(t:TT):Prop :=
 ∀ (whole:Sem Value) (pins:List (Addr×Obj)) (s:Shared) (σ:St) (H:Hp) (Q:Bool->Hp->Prop),Inv X pins σ H s->t σ H Q->wpAny (model X.prog X.w) X.A (isTrue e X.env whole) (TP X pins σ Q) X.xe s
theorem PW.pt (h:PW X e t):PT X e t:=h _
def PA (X:Cx)(es:List Expr)(t:TA):Prop :=
 ∀ (pos:Pos) (pins:List (Addr×Obj)) (s:Shared) (σ:St) (H:Hp) (Q:List V->Hp->Prop),Inv X pins σ H s->t σ H Q->wpAny (model X.prog X.w) X.A (spliced (backTo pos (starEach es X.env))) (AP X pins σ Q) X.xe s
def PS (X:Cx)(st:Stmt)(t:TS):Prop :=
 ∀ (pins:List (Addr×Obj)) (s:Shared) (σ:St) (H:Hp) (D:Ends),Inv X pins σ H s->t D σ H->wpAny (model X.prog X.w) X.A (exec st X.env) (SP X pins D) X.xe s
def PSs (X:Cx)(st:List Stmt)(t:TS):Prop :=
 ∀ (pins:List (Addr×Obj)) (s:Shared) (σ:St) (H:Hp) (D:Ends),Inv X pins σ H s->t D σ H->wpAny (model X.prog X.w) X.A (execs st X.env) (SP X pins D) X.xe s
theorem thn {O:Type}{t:Sem O}{Q b:O->Shared->Prop}{M:Model}{A:Around}{E:Value->Shared->Prop}{s:Shared}(h:wpAny M A t Q E s)(c:∀ a s,Q a s->b a s):wpAny M A t b E s:=wpAny_mono h c λ_ _ x=>x
section
variable {X:Cx}
theorem bin {a b:Expr}{g tb:TE}(p:PE X a g)(m:PE X b tb){c:List (Addr×Obj)}{s:Shared}{σ:St}{H:Hp}{R:V->V->Hp->Prop}(I:Inv X c σ H s)(h:g σ H λx H1=>tb σ H1 λy H2=>R x y H2)
  {O:Type} {Q:O->Shared->Prop} {f:Value->Value->Sem O}
  (l:∀ v u s2 x y H2,Inv X c σ H2 s2->RelV x v->RelV y u->R x y H2->wpAny (model X.prog X.w) X.A (f v u) Q X.xe s2) :
  wpAny (model X.prog X.w) X.A (eval a X.env) (λv O4=>wpAny (model X.prog X.w) X.A (eval b X.env) (λu O8=>wpAny (model X.prog X.w) X.A (f v u) Q X.xe O8) X.xe O4) X.xe s:=by
 refine thn (p c s σ H _ I h) λv o e=>?_
 obtain⟨x,H1,k,r1,i⟩:=e;refine thn (m c o σ H1 _ k i) λu s2 d=>?_
 obtain⟨y,H2,j,r2,n⟩:=d;exact l v u s2 x y H2 j r1 r2 n
def tVar (i:Nat):TE:=fun σ H Q=>∃ v,σ[i]?=some (some v)/\Q v H
def tC (v:V):TE:=λ_ H Q=>Q v H
theorem zDR {i:Nat}{x:Str}{pos:Pos}(o:X.N[i]?=some x)(k:Vis X.env.scope x)(g:(x==("__debug__":Str))=false:=by decide)(f:(x==("__classdict__":Str))=false:=by decide):PE X (.Name x pos) (tVar i):=by
 intro d s σ H Q I h;obtain⟨v,e,h⟩:=h;obtain⟨m,p,j⟩:=I.loc;obtain⟨u,r,l⟩:=j i x v o e k;have b:EP X d σ Q u s:=⟨v,H,I,r,h⟩;rcases l with ⟨a,n⟩ | ⟨a,c,hc,hcell⟩
 .exact wpAny_Name (wpAny_loadName_local I.ok.kind a p n b) g
 .rcases a with a | a
  .exact wpAny_Name (wpAny_loadName_cell I.ok.kind a hc hcell b) g
  .exact wpAny_Name (wpAny_loadName_free I.ok.kind a hc hcell b f) g
def Gl (X:Cx)(x:Str):Prop:=X.env.kindOf x=some .globalImplicit
theorem zDG {σ:St}(I:Inv X pins σ H s)(a:Gl X x)(b:X.mg x=some u)(h:Q u s)
  (c:(x==("__debug__":Str))=false:=by decide):wpAny (model X.prog X.w) X.A (eval (.Name x pos) X.env) Q E s :=
 Calls.Name_function_global I.ok.kind a (Calls.loadGlobal_global (by rw[I.ok.glob];exact I.mod.glob.keeps I.bk) b h) c
theorem zCa {E:Value->Shared->Prop}{a:List (Addr×Obj)}{s:Shared}{σ:St}{H:Hp}{x:Str}{u:Value}{pos:Pos}{Q:Value->Shared->Prop}(I:Inv X a σ H s)(f:Gl X x)(b:X.mg x=none)(e:bootBuiltins x=some u)(h:Q u s)
  (c:x ≠ "__name__":=by decide) (d:(x==("__debug__":Str))=false:=by decide):wpAny (model X.prog X.w) X.A (eval (.Name x pos) X.env) Q E s:=by
 obtain⟨j,i,g⟩:=I.mod.blt;exact Calls.Name_function_global I.ok.kind f (Calls.loadGlobal_builtin (by rw[I.ok.glob];exact I.mod.glob.keeps I.bk) b (by rw[I.ok.blt];exact i.keeps I.bk) ((g x c).trans e) h) d
theorem zI7 (b:Gl X x)(c:X.mg x=some u)(r:RelV v u)(a:(x==("__debug__":Str))=false:=by decide):PE X (.Name x pos) (tC v) :=
 λ_ _ _ H _ I h=>zDG I b c ⟨v,H,I,r,h⟩ a
theorem zOK {x:Str}{v:V}{u:Value}{pos:Pos}(a:Gl X x)(c:X.mg x=none)(b:bootBuiltins x=some u)(r:RelV v u)(d:x ≠ "__name__":=by decide)(e:(x==("__debug__":Str))=false:=by decide):PE X (.Name x pos) (tC v) :=
 λ_ _ _ H _ I h=>zCa I a c b ⟨v,H,I,r,h⟩ d e
variable {a b:Expr}{ta tb:TE}{pos:Pos}
def tB (t:TE):TT:=fun σ H Q=>t σ H λx H1=>∃ c,x=.bl c/\Q c H1
theorem zM4 (h:PE X e t)(c:∀ whole,isTrue e X.env whole=(do let v<-whole;standAt e.pos;holding [v] (truthy v)):=by intro _;rfl):PT X e (tB t):=by
 intro a s σ H Q I j;refine isTrue_plain (thn (h a s σ H _ I j) λv k b=>?_) (c _);obtain⟨x,f,g,r1,i⟩:=b;obtain⟨d,rfl,q⟩:=i;cases r1;exact wpAny_truthy_bool ⟨f,g,q⟩
variable {tA tB':TT}{rest:List Expr}
def tAnd (t u:TT):TT:=fun σ H Q=>t σ H λc H1=>if c=true then u σ H1 Q else Q false H1
def tOr (t u:TT):TT:=fun σ H Q=>t σ H λc H1=>if c=true then Q true H1 else u σ H1 Q
def tNot (t:TT):TT:=fun σ H Q=>t σ H λc H1=>Q (!c) H1
theorem zIy (d:PT X a tA):PW X (.BoolOp .And [a] pos) tA:=by
 intro g b s σ H Q I h;refine isTrue_and (thn (d b s σ H Q I h) λc f e=>?_);cases c with
 | true=>exact isTrue_and_nil e
 | false=>exact e
theorem zM2 (d:PT X a tA):PW X (.BoolOp .Or [a] pos) tA:=by
 intro f b s σ H Q I h;refine isTrue_or (thn (d b s σ H Q I h) λc g e=>?_);cases c with
 | false=>exact isTrue_or_nil e
 | true=>exact e
theorem zM3 (l:PT X a tA)(j:PW X (.BoolOp .And (b::rest) pos) tB'):PW X (.BoolOp .And (a::b::rest) pos) (tAnd tA tB'):=by
 intro k d s σ H Q I h;refine isTrue_and (thn (l d s σ H _ I h) λc m e=>?_);obtain⟨f,i,g⟩:=e;cases c with
 | true=>exact j k d m σ f Q i g
 | false=>exact⟨f,i,g⟩
theorem zQU (m:PT X a tA)(l:PW X (.BoolOp .Or (b::rest) pos) tB'):PW X (.BoolOp .Or (a::b::rest) pos) (tOr tA tB'):=by
 intro k d s σ H Q I h;refine isTrue_or (thn (m d s σ H _ I h) λc j e=>?_);obtain⟨i,g,f⟩:=e;cases c with
 | true=>exact⟨i,g,f⟩
 | false=>exact l k d j σ i Q g f
theorem zM5 (c:PT X a tA):PT X (.UnaryOp .Not a pos) (tNot tA):=by
 intro b s σ H Q I h;exact isTrue_not (c b s σ H _ I h)
def zSf (ta tb:TE):TE:=fun σ H Q=>ta σ H λx H1=>∃ c,x=.bl c/\if c=true then tb σ H1 Q else Q (.bl false) H1
def tOrV (ta tb:TE):TE:=fun σ H Q=>ta σ H λx H1=>∃ c,x=.bl c/\if c=true then Q (.bl true) H1 else tb σ H1 Q
theorem zNA {op}(h:PE X a t):PE X (.BoolOp op [a] pos) t:=by assumption
theorem zQf (l:PE X a ta)(k:PE X (.BoolOp .And (b::rest) pos) tb):PE X (.BoolOp .And (a::b::rest) pos) (zSf ta tb):=by
 intro d s σ H Q I h;refine BoolOp_and (thn (l d s σ H _ I h) λv j f=>?_);obtain⟨x,g,i,r1,e⟩:=f;obtain⟨c,rfl,e⟩:=e;cases r1;refine wpAny_truthy_bool ?_;cases c with
 | true=>exact k d j σ g Q i e
 | false=>exact⟨.bl false,g,i,rfl,e⟩
theorem zQb (k:PE X a ta)(l:PE X (.BoolOp .Or (b::rest) pos) tb):PE X (.BoolOp .Or (a::b::rest) pos) (tOrV ta tb):=by
 intro d s σ H Q I h;refine BoolOp_or (thn (k d s σ H _ I h) λv j f=>?_);obtain⟨x,g,i,r1,e⟩:=f;obtain⟨c,rfl,e⟩:=e;cases r1;refine wpAny_truthy_bool ?_;cases c with
 | false=>exact l d j σ g Q i e
 | true=>exact⟨.bl true,g,i,rfl,e⟩
def tIf (t:TT)(ta tb:TE):TE:=fun σ H Q=>t σ H λc H1=>if c=true then ta σ H1 Q else tb σ H1 Q
theorem zLW (n:PT X c tA)(m:PE X a ta)(l:PE X b tb):PE X (.IfExp c a b pos) (tIf tA ta tb):=by
 intro e s σ H Q I h;refine wpAny_IfExp (thn (n e s σ H _ I h) λd g f=>?_);obtain⟨j,i,k⟩:=f;cases d with
 | true=>exact m e g σ j Q i k
 | false=>exact l e g σ j Q i k
end
def SqL (K:W.Frag)(H:Hp)(a:Addr)(xs:List V):Prop :=
 Rd H a (.lst xs) \/
  ∃ (o:Obj) (its:Array Value) (n:Nat),K.lookup a=some o/\o.cls=.type "list"/\o.dict=none/\o.data=.seq its n/\its.size<=sizeLine/\Vals xs its.toList
def SqT (K:W.Frag)(H:Hp)(a:Addr)(xs:List V):Prop :=
 Rd H a (.tup xs) \/
  ∃ (o:Obj) (its:Array Value) (n:Nat),K.lookup a=some o/\o.cls=.type "tuple"/\o.data=.seq its n/\its.size<=sizeLine/\Vals xs its.toList
noncomputable def absV:Value->Option V
 | .none=>some .non
 | .bool b=>some (.bl b)
 | .int i _=>some (.int i)
 | .str x _=>some (.str x)
 | .bytes b _=>some (.byt b)
 | .float b _=>some (.flt b)
 | .ref a=>some (.ref a)
 | .type n=>some (.ty n)
 | _=>none
theorem RelV.abs (r:RelV x u):absV u=some x:=by
 cases x with
 | non=>cases r;rfl
 | bl _=>cases r;rfl
 | int _=>obtain⟨t,rfl⟩:=r;rfl
 | str _=>obtain⟨t,rfl⟩:=r;rfl
 | byt _=>obtain⟨t,rfl⟩:=r;rfl
 | flt _=>obtain⟨t,rfl⟩:=r;rfl
 | ref _=>cases r;rfl
 | ty _=>cases r;rfl
theorem RelV.inj (r:RelV x u)(q:RelV y u):x=y:=xY (r.abs.symm.trans q.abs)
theorem Vals.inj:∀ {xs ys:List V} {us:List Value},Vals xs us->Vals ys us->xs=ys
 | _,_,_,.nil,.nil=>rfl
 | _,_,_,.cons r t,.cons r' t'=>by rw[r.inj r',Vals.inj t t']
section
variable {X:Cx}{pins:List (Addr×Obj)}{σ:St}{H:Hp}{s:Shared}{a:Addr}{xs ys:List V}
theorem SqL.of {K:W.Frag}(h:H a=some (.lst xs)):SqL K H a xs:=.inl (.inl h)
theorem SqT.of {K:W.Frag}(h:H a=some (.tup xs)):SqT K H a xs:=.inl (.inl h)
theorem Inv.list (I:Inv X pins σ H s)(h:SqL X.K H a xs):∃ its:List Value,Vals xs its/\PlainL s.heap a its.toArray/\xs.length<=sizeLine:=by
 rcases h with h | ⟨o,its,n,hk,hc,hd,hs,hz,r⟩
 .obtain ⟨z,its,n,r,e⟩:=h.ok I.hok;exact⟨its,r,⟨_,n,e,rfl,rfl,rfl⟩,z⟩
 .refine ⟨its.toList,r,⟨o,n,I.kIn a o hk,hc,hd,by simpa using hs⟩,?_⟩;have e:=r.length;grind
theorem Inv.tuple (I:Inv X pins σ H s)(h:SqT X.K H a xs):∃ its:List Value,Vals xs its/\IsTup s.heap a its.toArray/\xs.length<=sizeLine:=by
 rcases h with h | ⟨o,its,n,hk,hc,hs,hz,r⟩
 .obtain ⟨z,its,r,p⟩:=h.ok I.hok;exact⟨its,r,p,z⟩
 .refine ⟨its.toList,r,⟨o,I.kIn a o hk,hc,n,by simpa using hs⟩,?_⟩;have e:=r.length;grind
theorem Inv.list_inj (I:Inv X pins σ H s)(h:SqL X.K H a xs)(h':SqL X.K H a ys):xs=ys:=by
 obtain⟨c,r,⟨o,n,e,_,_,d⟩,_⟩:=I.list h;obtain⟨b,f,⟨k,i,j,_,_,g⟩,_⟩:=I.list h'
 simp_all
 exact r.inj f
theorem Inv.tuple_inj (I:Inv X pins σ H s)(h:SqT X.K H a xs)(h':SqT X.K H a ys):xs=ys:=by
 obtain⟨c,r,⟨o,e,_,n,d⟩,_⟩:=I.tuple h;obtain⟨b,f,⟨k,j,_,i,g⟩,_⟩:=I.tuple h'
 simp_all
 exact r.inj f
end
abbrev Cx.wish (X:Cx) (E:Value->Shared->Prop):Cx:={ X with xe:=E }
abbrev Cx.nox (X:Cx):Cx:=X.wish λ_ _=>False
theorem Cx.Ok.wish {X:Cx}(ok:X.Ok)(E:Value->Shared->Prop):(X.wish E).Ok :=
 ⟨ok.mod,ok.kind,ok.glob,ok.blt,ok.above,ok.inj,ok.has,ok.cab,ok.hd,ok.frames,ok.stk,ok.exf,ok.bs,ok.bsz,ok.noex,ok.exfs,ok.funs,ok.frf,ok.pyl,ok.tabs⟩
theorem Cx.Ok.unwish {X:Cx}(ok:(X.wish E).Ok):X.Ok :=
 ⟨ok.mod,ok.kind,ok.glob,ok.blt,ok.above,ok.inj,ok.has,ok.cab,ok.hd,ok.frames,ok.stk,ok.exf,ok.bs,ok.bsz,ok.noex,ok.exfs,ok.funs,ok.frf,ok.pyl,ok.tabs⟩
section
variable {X:Cx}{pins:List (Addr×Obj)}{σ:St}{H:Hp}{s:Shared}{E:Value->Shared->Prop}
theorem Inv.wish (I:Inv X pins σ H s)(E:Value->Shared->Prop):Inv (X.wish E) pins σ H s:=⟨I.ok.wish E,I.os,I.bare,I.base,I.loc,I.cell,I.free,I.freeC,I.pin,I.hok,I.len⟩
theorem Inv.unwish (I:Inv (X.wish E) pins σ H s):Inv X pins σ H s:=⟨I.ok.unwish,I.os,I.bare,I.base,I.loc,I.cell,I.free,I.freeC,I.pin,I.hok,I.len⟩
theorem SP.unwish (h:SP (X.wish E) pins D f s'):SP X pins D f s':=by
 cases f with
 | next=>obtain⟨a,b,I,q⟩:=h;exact⟨a,b,I.unwish,q⟩
 | brk=>obtain⟨a,b,I,q⟩:=h;exact⟨a,b,I.unwish,q⟩
 | cont=>obtain⟨a,b,I,q⟩:=h;exact⟨a,b,I.unwish,q⟩
 | ret u=>obtain⟨v,a,b,I,r,q⟩:=h;exact⟨v,a,b,I.unwish,r,q⟩
theorem PE.nox (h:PE X.nox e t):PE X e t:=λpins s σ H Q I f =>
 wpAny_mono (h pins s σ H Q (I.wish _) f) (λ_ _ a=>by obtain⟨v,c,d,r,q⟩:=a;exact⟨v,c,d.unwish,r,q⟩) λ_ _ z=>False.elim z
theorem PSs.nox {st:List Stmt}(h:PSs X.nox st t):PSs X st t:=λpins s σ H D I b =>
 wpAny_mono (h pins s σ H D (I.wish _) b) (λ_ _ q=>q.unwish) λ_ _ z=>False.elim z
end
section
variable {X:Cx}{st:Stmt}{rest:List Stmt}{t u:TS}{e:Expr}{te:TE}{pos:Pos}
def zP7:TS:=λD σ H=>D.nx σ H
def tSeq (t u:TS):TS:=λD σ H=>t { D with nx:=u D } σ H
theorem zGa:PSs X [] zP7:=λ_ _ σ H _ I h=>wpAny_execs_nil ⟨σ,H,I,h⟩
theorem zEz (c:PS X st t)(d:PSs X rest u):PSs X (st::rest) (tSeq t u):=by
 intro a s σ H D I h;refine wpAny_execs_cons (thn (c a s σ H { D with nx:=u D } I h) λf g q=>?_);cases f with
 | next =>
  obtain⟨i,e,b,q⟩:=q;exact d a g i e D b q
 | ret v=>exact q
 | brk=>exact q
 | cont=>exact q
theorem zOD:PS X (.Pass pos) zP7:=λ_ _ σ H _ I h=>wpAny_Pass ⟨σ,H,I,h⟩
theorem Inv.quiet {σ:St}(I:Inv X pins σ H s):interactive X.env=false:=by simp[interactive,I.ok.kind]
def zSd (te:TE):TS:=λD σ H=>te σ H λ_ H1=>D.nx σ H1
theorem zDB (i:PE X e te)(g:swapsWith e none pos.line X.env=pure false:=by rfl):PS X (.Expr e pos) (zSd te):=by
 intro b s σ H D I h;exact wpAny_Expr_any (thn (i b s σ H _ I h) λv j a=>by obtain⟨x,d,c,r1,f⟩:=a;exact⟨σ,d,c,f⟩) I.quiet g
def tRet (te:TE):TS:=λD σ H=>te σ H D.rt
theorem zIz (g:PE X e te):PS X (.Return (some e) pos) (tRet te):=by
 intro b s σ H D I h;exact wpAny_Return_some (thn (g b s σ H _ I h) λv i a=>by obtain⟨x,c,d,r1,f⟩:=a;exact⟨x,σ,c,d,r1,f⟩)
def zSb:TS:=λD _ H=>D.rt .non H
theorem zOC:PS X (.Return none pos) zSb:=λ_ _ σ H _ I h=>wpAny_Return_none ⟨.non,σ,H,I,rfl,h⟩
def tIfS (c:TT)(t u:TS):TS:=λD σ H=>c σ H λb H1=>if b=true then t D σ H1 else u D σ H1
theorem zQV (n:PT X c tc)(m:PSs X a t)(l:PSs X b u):PS X (.If c a b pos) (tIfS tc t u):=by
 intro e s σ H D I h;refine wpAny_If (thn (n e s σ H _ I h) λd g f=>?_);obtain⟨j,i,k⟩:=f;cases d with
 | true=>exact m e g σ j D i k
 | false=>exact l e g σ j D i k
def zP8:TS:=λ_ _ _=>False
theorem zE0:PS X st zP8:=λ_ _ _ _ _ _ h=>h.elim
end
abbrev TG:=V->St->Hp->(St->Hp->Prop)->Prop
def PG (X:Cx)(target:Expr)(t:TG):Prop :=
 ∀ (pins:List (Addr×Obj)) (s:Shared) (σ:St) (H:Hp) (v:V) (u:Value) (Q:St->Hp->Prop),Inv X pins σ H s->RelV v u->t v σ H Q ->
  wpAny (model X.prog X.w) X.A (assign target X.env u) (λ_ s'=>∃ O1 H',Inv X pins O1 H' s'/\Q O1 H') X.xe s
abbrev TSet:=V->V->V->Hp->(Hp->Prop)->Prop
def PSet (X:Cx)(t:TSet):Prop :=
 ∀ (pins:List (Addr×Obj)) (s:Shared) (σ:St) (H:Hp) (o i v:V) (ov iv u:Value) (Q:Hp->Prop),Inv X pins σ H s->RelV o ov->RelV i iv->RelV v u->t o i v H Q ->
  wpAny (model X.prog X.w) X.A (setItem ov iv u) (λ_ s'=>∃ H',Inv X pins σ H' s'/\Q H') X.xe s
abbrev TIp:=V->V->Hp->VK->Prop
def PIp (X:Cx)(op:Operator)(t:TIp):Prop :=
 ∀ (pins:List (Addr×Obj)) (s:Shared) (σ:St) (H:Hp) (x y:V) (v u:Value) (Q:VK),Inv X pins σ H s->RelV x v->RelV y u->t x y H Q ->
  wpAny (model X.prog X.w) X.A (inplaceOp op v u) (EP X pins σ Q) X.xe s
section
variable {X:Cx}{pos:Pos}
def zRv (i:Nat):TG:=λv σ H Q=>Q (σ.set i (some v)) H
theorem zE4 (e:X.N.Nodup)(c:X.N[i]?=some x)(d:Loc X.env.scope x)(f:X.fn x=true\/X.env.scope.names.lookup x=some .local:=by walk_at "i"):PG X (.Name x pos) (zRv i):=by
 intro a s σ H v u Q I r h;exact wpAny_assign_Name (zDf I e c d r (λs' b=>⟨_,H,b,h⟩) f)
def gSub (to ti:TE)(t:TSet):TG:=λv σ H Q=>to σ H λo H1=>ti σ H1 λi H2=>t o i v H2 λH3=>Q σ H3
theorem zQZ (n:PE X o to)(e:PE X i ti)(f:PSet X t)
  (k:∀ v,assign (.Subscript o i pos) X.env v=(do
   let ov<-holding [v] (eval o X.env)
   let iv<-holding [v,ov] (eval i X.env)
   standAt pos
   holding [v,ov,iv] (setItem ov iv v)
   release [v,ov,iv] []):=by intro _;rfl):PG X (.Subscript o i pos) (gSub to ti t):=by
 intro a s σ H v u Q I r h;rw[k];refine qQ (wpAny_holding (thn (n a s σ H _ I h) λov l b=>?_));obtain⟨x,w,j,r1,z⟩:=b;refine qQ (wpAny_holding (thn (e a l σ w _ j z) λiv q c=>?_));obtain⟨y,B,p,r2,g⟩:=c;refine qQ (wpAny_standAt (qQ (wpAny_holding (thn (f a q σ B x y v ov iv u _ p r1 r2 r g) λ_ D d=>?_))));obtain⟨m,C,A⟩:=d;exact wpAny_release ⟨σ,m,C,A⟩
def tAsg (te:TE)(g:TG):TS:=λD σ H=>te σ H λx H1=>g x σ H1 D.nx
theorem zQX {b e:Expr}{d:TE}{g:TG}(n:PE X e d)(k:PG X b g)(m:swapsWithSole [b] e pos.line X.env=pure false:=by rfl)(f:swappedStores [b] e X.env=pure none:=by rfl)
  (p:(assignEach [b] X.env).map (·.2)=[assign b X.env]:=by rfl):PS X (.Assign [b] e pos) (tAsg d g):=by
 intro a s σ H D I h;refine wpAny_Assign_stores (thn (n a s σ H _ I h) λv o c=>?_) m f;obtain⟨x,l,i,r1,j⟩:=c;rw[p];exact thn (k a o σ l x v _ i r1 j) λ_ r q=>q
theorem zM6 (m:X.N.Nodup)(g:X.N[i]?=some x)(d:Loc X.env.scope x)(o:PE X e te)(n:swapsWith e (some (.Name x pos')) pos.line X.env=pure false:=by rfl)(f:X.fn x=true\/X.env.scope.names.lookup x=some .local:=by walk_at "i") :
  PS X (.Assign [.Name x pos'] e pos) (tAsg te (zRv i)):=by
 intro a s σ H D I h;refine wpAny_Assign_Name (thn (o a s σ H _ I h) λv p b=>?_) n;obtain⟨y,j,c,r1,k⟩:=b;exact zDf c m g d r1 (λs2 l=>⟨_,j,l,k⟩) f
def tAug (i:Nat)(te:TE)(ti:TIp):TS:=λD σ H=>∃ x,σ[i]?=some (some x)/\te σ H λy H1=>ti x y H1 λz H2=>D.nx (σ.set i (some z)) H2
theorem zQW (A:X.N.Nodup)(n:X.N[i]?=some x)(j:Loc X.env.scope x)(Q:PE X e te)(J:PIp X op ti)(N:X.fn x=true\/X.env.scope.names.lookup x=some .local:=by walk_at "i") :
  PS X (.AugAssign (.Name x pos') op e pos) (tAug i te ti):=by
 intro a s σ H D I h;obtain⟨v,O,h⟩:=h;obtain⟨m,P,L⟩:=I.loc;have g:Vis X.env.scope x:=by rcases j with k | k;exact .inl k;exact .inr (.inl k)
 obtain⟨u,r,l⟩:=L i x v n O g;refine wpAny_AugAssign_Name ?_;have o:wpAny (model X.prog X.w) X.A (eval e X.env) (λw q=>wpAny (model X.prog X.w) X.A (inplaceOp op u w) (λr E=>wpAny (model X.prog X.w) X.A (storeName X.env x r) (λ_=>SP X a D .next) X.xe E) X.xe q) X.xe s:=by
  refine thn (Q a s σ H _ I h) λw K d=>?_
  obtain⟨y,G,t,r1,C⟩:=d;refine thn (J a K σ G v y u w _ t r r1 C) λz R f=>?_
  obtain⟨S,F,B,r2,z⟩:=f;exact zDf B A n j r2 (λs3 M=>⟨_,F,M,z⟩) N
 rcases l with ⟨b,p⟩ | ⟨b,c,hc,hcell⟩
 .exact wpAny_loadName_local I.ok.kind b P p o
 .rcases b with b | b
  .exact wpAny_loadName_cell I.ok.kind b hc hcell o
  .rcases j with k | k
   .have:X.env.scope.names.lookup x=some .free:=b;rw[k] at this;cases this
   .have:X.env.scope.names.lookup x=some .free:=b;rw[k] at this;cases this
end
section
variable {X:Cx}{pos:Pos}
def zP5 (c:TT)(tb:TS):TS:=λD σ H=>∃ W:Nat->St->Hp->Prop,(∃ m,W m σ H)/\∀ m σ H,W m σ H ->
 c σ H λb H1=>if b=true then ∃ N:St->Hp->Prop,(∀ O1 H',N O1 H'->∃ m',m' < m/\W m' O1 H')/\tb { D with nx:=N,ct:=N,bk:=D.nx } σ H1 else D.nx σ H1
theorem zLR (w:PassesOwn (model X.prog X.w) X.A X.env X.xe)(A:PT X c tc)(E:PSs X body tb):PS X (.While c body [] pos) (zP5 tc tb):=by
 intro a s σ H D I h;obtain⟨W,⟨m0,w0⟩,turn⟩:=h;refine wpAny_While (codeAny_whileLoop (λn C=>∃ O1 H',Inv X a O1 H' C/\W n O1 H') ?_ m0 ⟨σ,H,I,w0⟩);rintro n z ⟨i,r,B,y⟩;refine wpAny_passesOwn w (thn (A a z i r _ B (turn n i r y)) λb F g=>?_);obtain⟨x,t,k⟩:=g;cases b with
 | true =>
  obtain⟨N,u,k⟩:=k;rw[if_pos rfl];refine wpAny_passesOwn w (thn (E a F i x _ t k) λf G j=>?_);cases f with
  | next =>
   obtain⟨e,d,m,o⟩:=j;obtain⟨p,l,q⟩:=u e d o;exact⟨p,l,e,d,m,q⟩
  | cont =>
   obtain⟨e,d,m,o⟩:=j;obtain⟨p,l,q⟩:=u e d o;exact⟨p,l,e,d,m,q⟩
  | brk=>exact j
  | ret v=>exact j
 | false =>
  rw[if_neg qX];exact wpAny_execs_nil ⟨i,x,t,k⟩
end
structure It where
 go:Nat->Hp->Prop
 yld:Nat->Hp->V->Hp->Prop
 stop:Nat->Hp->Prop
def FpOk (X:Cx)(pins:List (Addr×Obj))(H:Hp)(b:Addr):Prop :=
 H b=none/\b≠X.env.locals/\b∉X.fs/\(b∈X.ex\/X.s0.heap.objs.size<=b)/\(∀ x c,X.env.cells.lookup x=some c->c≠b)/\∀ p∈X.pn++pins,p.1≠b
theorem Inv.fpOk {X:Cx}{a:List (Addr×Obj)}{σ:St}{H f:Hp}{s:Shared}{b:Addr}(I:Inv X a σ H s)(d:s.heap.objs.size<=b)(h:f b=none):FpOk X a f b:=by
 refine⟨h,Nat.ne_of_gt (xJ I.lt d),I.nofs d,.inr (le_trans I.sz d),λx c e z=>?_,λp g z=>?_⟩
 .obtain ⟨v,q⟩:=I.cell x c e;exact absurd (xJ q.lt (by simp_all)) (lt_irrefl _)
 .exact absurd (xJ (lt_size (I.pin p g).1) (by simp_all)) (lt_irrefl _)
structure Turn (P:Program)(w:World)(K:W.Frag)(tg:Expr)(J:It)(fp:List Addr)(it:Addr)(tn:Nat->Heap->Prop):Prop where
 mem:it∈fp
 obj:∀ i h,tn i h->∀ b∈fp,∃ o,h.get? b=some o/\∀ v,o.data≠.cell v
 keep:∀ i h h',tn i h->(∀ b∈fp,∀ o,h.get? b=some o->h'.get? b=some o)->tn i h'
 item:∀ (X:Cx),X.prog=P->X.w=w->X.K=K->X.calm=true->∀ (i:Nat) (pins:List (Addr×Obj)) (s:Shared) (σ:St) (H:Hp) (E:Value->Shared->Prop),Inv X pins σ H s->(∀ b∈fp,FpOk X pins H b)->tn i s.heap->J.go i H ->
  wpAny (model P w) X.A (pyNext (.ref it)) (λr s1=>∃ u,r=some u /\
   wpAny (model P w) X.A (letOwnedTupleGo tg (.ref it) u) (λ_ s2=>∃ x H',Inv X pins σ H' s2/\RelV x u/\J.yld i H x H'/\tn (i+1) s2.heap/\∀ b∈fp,H' b=none) E s1) E s
 done:∀ (X:Cx),X.prog=P->X.w=w->X.K=K->X.calm=true->∀ (i:Nat) (pins:List (Addr×Obj)) (s:Shared) (σ:St) (H:Hp) (E:Value->Shared->Prop),Inv X pins σ H s->(∀ b∈fp,FpOk X pins H b)->tn i s.heap->J.stop i H ->
  wpAny (model P w) X.A (pyNext (.ref it)) (λr s1=>r=none/\Inv X pins σ H s1) E s
 self:∀ (A:Around) (i:Nat) (s:Shared) (Q:Value->Shared->Prop) (E:Value->Shared->Prop),tn i s.heap->Q (.ref it) s->wpAny (model P w) A (pyIter (.ref it)) Q E s
abbrev TI:=St->Hp->(It->Hp->Prop)->Prop
def PIE (X:Cx)(pins:List (Addr×Obj))(σ:St)(tg:Expr)(R:It->Hp->Prop)(itv:Value)(s2:Shared):Prop :=
 ∃ (it:Addr) (fp:List Addr) (tn:Nat->Heap->Prop) (J:It) (H':Hp),itv=.ref it/\Inv X pins σ H' s2/\Turn X.prog X.w X.K tg J fp it tn/\tn 0 s2.heap/\(∀ b∈fp,FpOk X pins H' b)/\R J H'
def PI (X:Cx)(tg iter:Expr)(wi:TI):Prop :=
 ∀ (pins:List (Addr×Obj)) (s:Shared) (σ:St) (H:Hp) (R:It->Hp->Prop),Inv X pins σ H s->wi σ H R ->
  wpAny (model X.prog X.w) X.A (eval iter X.env) (λv s1=>wpAny (model X.prog X.w) X.A (pyIter v) (PIE X pins σ tg R) X.xe s1) X.xe s
theorem zMB (d:s.heap.get? it=some o)(c:o.cls=.type n)(b:o.data=.fields vs)
  (e:["enumerate","zip","dict_itemiterator","dict_reverseitemiterator","odict_iterator","itertools.zip_longest","itertools.pairwise"].contains n=false) (a:Q () s):wpAny M A (letOwnedTupleGo tg (.ref it) u) Q E s:=by
 cases tg<;>first
  | exact xj a
  | cases u<;>first
    | exact xj a
    | (refine qQ (wpAny_load d ?_);rw[c,b];show wpAny M A (if _=true then _ else _) Q E s;rw[if_neg (by grind)];exact xj a)
noncomputable def Itl (K:W.Frag)(a:Addr):It :=
 ⟨λi H=>∃ xs x,SqL K H a xs/\xs[i]?=some x,λi H x H'=>H'=H/\∀ xs,SqL K H a xs->xs[i]?=some x,λi H=>∃ xs,SqL K H a xs/\xs.length<=i⟩
noncomputable def Itt (K:W.Frag)(a:Addr):It :=
 ⟨λi H=>∃ xs x,SqT K H a xs/\xs[i]?=some x,λi H x H'=>H'=H/\∀ xs,SqT K H a xs->xs[i]?=some x,λi H=>∃ xs,SqT K H a xs/\xs.length<=i⟩
noncomputable def Itr (lo:Int)(n:Nat):It:=⟨λi _=>i < n,λi H x H'=>H'=H/\x=.int (lo+i),λi _=>n<=i⟩
theorem zIe {P:Program}{w:World}{K:W.Frag}{Z:Expr}(a it:Addr):Turn P w K Z (Itl K a) [it] it (λi h=>h.IsListIter it a i) where
 mem:=by simp
 obj:=λi h f b j=>by
  have e:b=it:=by simpa using j
  subst e;obtain⟨o,e,c,d⟩:=f;exact⟨o,e,λv z=>by rw[d] at z;cases z⟩
 keep:=λi h h' f k=>f.at λo e=>k it (by simp) o e
 item:=by
  intro X G A J L i g s σ H E I m f r;subst G A J;obtain⟨S,x,n,B⟩:=r;obtain⟨v,q,p,Y⟩:=I.list n;obtain⟨u,N,T⟩:=q.get B;obtain⟨D,F,R,y,t,C⟩:=m it (by simp);refine wpAny_pyNext_list_item f p.isList (x:=u) (by simpa using N) λh' l V=>?_
  have U:Inv X g σ H { s with heap:=h' }:=I.turned (t':=s.toks) (λb o j e=>(V.2 b j).trans e) D F y t C;obtain⟨o,e,c,d⟩:=id l;exact⟨u,rfl,zMB (s:={ s with heap:=h' }) e c d (by decide) ⟨x,H,U,T,⟨rfl,λys O=>by rw[I.list_inj O n];exact B⟩,l,λb j=>(m b j).1⟩⟩
 done:=by
  intro X G A J L i g s σ H E I m f r;subst G A J;obtain⟨S,n,B⟩:=r;obtain⟨v,q,p,Y⟩:=I.list n;obtain⟨D,F,R,y,t,C⟩:=m it (by simp);have hl:=q.length;exact wpAny_pyNext_list_end (I.ok.hd L) f p.isList (by simp;omega) λh' Q=>⟨rfl,I.turned (t':=s.toks) (λb o j e=>Q b o j e) D F y t C⟩
 self:=λ_ _ _ _ _ f h=>wpAny_pyIter_listiter f h
theorem zHw {P:Program}{w:World}{K:W.Frag}{R:Expr}(a it:Addr):Turn P w K R (Itt K a) [it] it (λi h=>h.IsTupleIter it a i) where
 mem:=by simp
 obj:=λi h f b l=>by
  have e:b=it:=by simpa using l
  subst e;obtain⟨o,e,c,d⟩:=f;exact⟨o,e,λv z=>by rw[d] at z;cases z⟩
 keep:=λi h h' f k=>f.at λo e=>k it (by simp) o e
 item:=by
  intro X F B A L i g s σ H E I q f G;subst F B A;obtain⟨Q,x,n,y⟩:=G;obtain⟨j,r,p,Y⟩:=I.tuple n;obtain⟨u,O,S⟩:=r.get y;obtain⟨v,t,V,D,C,J⟩:=q it (by simp);refine wpAny_pyNext_tuple_item f (show s.heap.IsTuple a j.toArray from p) (x:=u) (by simpa using O) λh' m U=>?_
  have N:Inv X g σ H { s with heap:=h' }:=I.turned (t':=s.toks) (λb o l e=>(U.2 b l).trans e) v t D C J;obtain⟨o,e,c,d⟩:=id m;exact⟨u,rfl,zMB (s:={ s with heap:=h' }) e c d (by decide) ⟨x,H,N,S,⟨rfl,λys Z=>by rw[I.tuple_inj Z n];exact y⟩,m,λb l=>(q b l).1⟩⟩
 done:=by
  intro X F B A L i g s σ H E I q f G;subst F B A;obtain⟨Q,n,y⟩:=G;obtain⟨j,r,p,Y⟩:=I.tuple n;obtain⟨v,t,V,D,C,J⟩:=q it (by simp);have hl:=r.length;exact wpAny_pyNext_tuple_end (I.ok.hd L) f (show s.heap.IsTuple a j.toArray from p) (by simp;omega) λh' T=>⟨rfl,I.turned (t':=s.toks) (λb o l e=>T b o l e) v t D C J⟩
 self:=λ_ _ _ _ _ f h=>wpAny_pyIter_tupleiter f h
theorem zHx {P:Program}{w:World}{K:W.Frag}{J:Expr}(it:Addr)(g:Int)(n:Nat):Turn P w K J (Itr g n) [it] it (λi h=>IsRangeIter h it (g+(i:Nat)*1) ((n:Int) - (i:Nat)) 1) where
 mem:=by simp
 obj:=λi h c b d=>by
  simp_all
 keep:=λi h x c k=>k it (by simp) _ c
 item:=by
  intro X A v q p i a s σ H E I j c z;subst A v q;obtain⟨u,y,D,r,m,l⟩:=j it (by simp);have W:=Walks.range (prog:=X.prog) (w:=X.w) (I.ok.hd p) it g 1 n;refine W.item i s _ _ z c λv x B L f C=>?_
  obtain⟨t,rfl⟩:=L;have G:Inv X a σ H { s with heap:=x,toks:=B }:=I.turned (λb o d e=>C b o (by simpa using d) e) u y r m l;refine⟨_,rfl,zMB (s:={ s with heap:=x,toks:=B }) (n := "range_iterator") f rfl rfl (by decide) ⟨.int (g+i),H,G,⟨t,?_⟩,⟨rfl,rfl⟩,f,λb d=>(j b d).1⟩⟩;rw[Int.mul_one]
 done:=by
  intro X A v q p i a s σ H E I j c z;subst A v q;obtain⟨u,y,D,r,m,l⟩:=j it (by simp);exact wpAny_pyNext_range_end (I.ok.hd p) c (by have:n<=i:=z;omega) λh' F=>⟨rfl,I.turned (t':=s.toks) (λb o d e=>F b o d e) u y r m l⟩
 self:=λ_ _ _ _ _ c h=>wpAny_pyIter_rangeiter c h
section
variable {X:Cx}{tg:Expr}
theorem zHF {σ:St}{a:Int}(I:Inv X pins σ H s)(d:-(2^62)<=a)(i:a < 2^62)(k:-(2^62)<=hi)(g:hi < 2^62)
  (q:R (Itr a (hi - a).toNat) H):wpAny (model X.prog X.w) X.A (pyIter (.ref s.heap.objs.size)) (PIE X pins σ tg R) E { s with heap:=s.heap.push { cls:=.type "range",data:=.fields #[.int a t,.int hi u,.int 1 v] },toks:=tk }:=by
 refine wpAny_pyIter_range (IsRange.new ..) (small_one d i k g) ?_;have c:Inv X pins σ H { s with heap:=s.heap.push { cls:=.type "range",data:=.fields #[.int a t,.int hi u,.int 1 v] },toks:=tk }:=I.kept λb o e=>get?_push_of_some _ e
 refine⟨(s.heap.push { cls:=.type "range",data:=.fields #[.int a t,.int hi u,.int 1 v] }).objs.size,[(s.heap.push { cls:=.type "range",data:=.fields #[.int a t,.int hi u,.int 1 v] }).objs.size],_,_,H,rfl,
  c.kept λb o e=>get?_push_of_some _ e,zHx _ a (hi - a).toNat,?_,λb h=>?_,q⟩
 .have f:a+((0:Nat):Int)*1=a:=by simp
  have j:(((hi - a).toNat:Nat):Int) - ((0:Nat):Int)=Builtin.Range.rangeSize a hi 1:=by rw[rangeSize_one];split<;>omega
  rw[f,j];exact get?_push_size _ rfl
 .have e:b=(s.heap.push { cls:=.type "range",data:=.fields #[.int a t,.int hi u,.int 1 v] }).objs.size:=by simpa using h
  subst e;exact c.fpOk (le_refl _) (c.hok.fresh (le_refl _))
def zS0 (ta:TA):TI:=fun σ H R=>ta σ H λvs H1=>∃ j:Int,vs=[.int j]/\-(2^62)<=j/\j < 2^62/\R (Itr 0 j.toNat) H1
def zSz (ta:TA):TI:=fun σ H R=>ta σ H λvs H1=>∃ i j:Int,vs=[.int i,.int j]/\(-(2^62)<=i/\i < 2^62/\-(2^62)<=j/\j < 2^62)/\R (Itr i (j - i).toNat) H1
theorem zFk (f:Gl X "range")(g:X.mg "range"=none)(i:PA X [a] ta)(l:starEach [a] X.env=[(false,eval a X.env)]:=by rfl):PI X tg (.Call (.Name "range" p) [a] [] pos) (zS0 ta):=by
 intro c s σ H R I h;refine Call_ (zCa I f g boot_range (PyProof.Rows.callWith_type1 (thn (i pos c s σ H _ I h) λus o b=>?_) l rfl));obtain⟨u,v,k,r1,d⟩:=b;obtain⟨j,e,d,m,q⟩:=d;subst e;cases r1 with
 | cons r n =>
  cases n;obtain⟨t,rfl⟩:=r;exact call_range_1 (zHF k (by omega) (by omega) d m (by simpa using q))
theorem zI5 {a b:Expr}{l:TA}{p pos:Pos}(u:Gl X "range")(m:X.mg "range"=none)(y:PA X [a,b] l)(x:starEach [a,b] X.env=[(false,eval a X.env),(false,eval b X.env)]:=by rfl)(c:starEach [b] X.env=[(false,eval b X.env)]:=by rfl) :
  PI X tg (.Call (.Name "range" p) [a,b] [] pos) (zSz l):=by
 intro f s σ H R I h;refine Call_ (zCa I u m boot_range (PyProof.Rows.callWith_type1 (thn (y pos f s σ H _ I h) λus C d=>?_) (by rw[x,c]) (by rw[c];rfl)));obtain⟨D,A,n,r1,g⟩:=d;obtain⟨i,j,e,⟨g,z,w,v⟩,q⟩:=g;subst e;cases r1 with
 | cons r k =>
  cases k with
  | cons o k =>
   cases k;obtain⟨t,rfl⟩:=r;obtain⟨B,rfl⟩:=o;exact call_range_2 (zHF n g z w v q)
def tFor (wi:TI)(g:TG)(tb:TS):TS:=λD σ H=>wi σ H λJ H1=>∃ W:Nat->Nat->St->Hp->Prop,(∃ m,W 0 m σ H1)/\∀ i m σ H,W i m σ H ->
 (J.stop i H/\D.nx σ H)\/(J.go i H/\∃ N:St->Hp->Prop,(∀ O1 H',N O1 H'->∃ m',m' < m/\W (i+1) m' O1 H')/\∀ x H',J.yld i H x H'->g x σ H' λY7 H2=>tb { D with nx:=N,ct:=N,bk:=D.nx } Y7 H2)
noncomputable def zCT (fp:List Addr)(h:Heap):List (Addr×Obj):=fp.filterMap λb=>(h.get? b).map λo=>(b,o)
theorem zCj (a:b∈fp)(e:h.get? b=some o):(b,o)∈zCT fp h:=List.mem_filterMap.mpr ⟨b,a,by rw[e];rfl⟩
theorem zFs (a:p∈zCT fp h):p.1∈fp/\h.get? p.1=some p.2:=by
 obtain⟨b,c,e⟩:=List.mem_filterMap.mp a;cases q:h.get? b with
 | none=>rw[q] at e;cases e
 | some o =>
  rw[q] at e;have d:=xY e;subst d;exact⟨c,q⟩
theorem Inv.pinned {σ:St}(I:Inv X pins σ H s)(d:∀ b∈fp,FpOk X pins H b)(c:∀ b∈fp,∃ o,s.heap.get? b=some o/\∀ v,o.data≠.cell v):Inv X (pins++zCT fp s.heap) σ H s :=
 I.pins_of λp f=>(mem_append.mp f).elim (λz=>I.pin p (xQ _ z)) λz=>by
  obtain⟨a,e⟩:=zFs z;obtain⟨h,i,g,_⟩:=d p.1 a;obtain _:=c p.1 a
  simp_all
theorem Inv.unpinned {σ:St}(I:Inv X (pins++pl) σ H s):Inv X pins σ H s:=I.pins_of λp a=>I.pin p (xQ _ (List.mem_append_left _ a))
theorem zM7 (K:PassesOwn (model X.prog X.w) X.A X.env X.xe)(V:X.calm=true)(hi:PI X tg iter wi)(hg:PG X tg g)(j:PSs X body tb)
  (hs:∀ x,foldedSetIterable iter X.env x=pure x:=by intro _;rfl):PS X (.For tg iter body [] pos) (tFor wi g tb):=by
 intro a s σ H D I h;refine wpAny_For (thn (hi a s σ H _ I h) λv s1 h1=>thn h1 λitv s2 h2=>?_) hs;obtain⟨it,C,tn,J,H2,e,I2,T,S,U,W,⟨m0,w0⟩,turn⟩:=h2;subst e;have l:∀ {H':Hp},(∀ b∈C,H' b=none)->∀ b∈C,FpOk X a H' b:=λhn b j=>⟨hn b j,(U b j).2⟩
 refine codeAny_forLoop_any (λn Z=>∃ i O1 H',Inv X a O1 H' Z/\tn i Z.heap/\(∀ b∈C,H' b=none)/\W i n O1 H') ?_ m0 ⟨0,σ,H2,I2,S,λb j=>(U b j).1,w0⟩;rintro n s3 ⟨i,G,M,I3,A,L,w3⟩;rcases turn i n G M w3 with ⟨E,qn⟩ | ⟨go,N,hN,step⟩
 .refine wpAny_passesOwn K (thn (T.done X rfl rfl rfl V i a s3 G M X.xe I3 (l L) A E) λr s4 w=>?_);obtain⟨R,I4⟩:=w;subst R;exact wpAny_execs_nil ⟨G,M,I4,qn⟩
 .refine wpAny_passesOwn K (thn (T.item X rfl rfl rfl V i a s3 G M X.xe I3 (l L) A go) λr s4 F=>?_);obtain⟨u,R,h4⟩:=F;subst R;refine wpAny_passesOwn K (thn h4 λ_ Y y=>?_);obtain⟨x,H5,I5,r5,y5,t,Q⟩:=y;have O:=I5.pinned (l Q) (T.obj _ _ t);refine wpAny_passesOwn K (thn (hg _ Y G H5 x u _ O r5 (step x H5 y5)) λ_ s6 B=>?_);obtain⟨O5,H6,I6,q6⟩:=B;refine wpAny_passesOwn K (thn (j _ s6 O5 H6 _ I6 q6) λf P r=>?_);have q:∀ {c:St} {k:Hp},Inv X (a++zCT C Y.heap) c k P->N c k->∃ m,m < n/\∃ i O1 H',Inv X a O1 H' P/\tn i P.heap/\(∀ b∈C,H' b=none)/\W i m O1 H':=λ{c k} p z=>by
   obtain⟨m',hm,w7⟩:=hN c k z;refine⟨m',hm,i+1,c,k,p.unpinned,T.keep _ _ _ t λb j o e=>(p.pin (b,o) (xQ _ (xQ _ (zCj j e)))).1,λb j=>?_,w7⟩;obtain⟨o,e,d⟩:=T.obj _ _ t b j;exact(p.pin (b,o) (xQ _ (xQ _ (zCj j e)))).2.1
  cases f with
  | next=>obtain⟨c,k,p,z⟩:=r;exact q p z
  | cont=>obtain⟨c,k,p,z⟩:=r;exact q p z
  | brk=>obtain⟨c,k,p,r⟩:=r;exact⟨c,k,p.unpinned,r⟩
  | ret v=>obtain⟨x7,c,k,p,r7,r⟩:=r;exact⟨x7,c,k,p.unpinned,r7,r⟩
end
abbrev R2:=V->V->Hp->VK->Prop
def OpR (X:Cx)(f:Value->Value->Sem Value)(r:R2):Prop :=
 ∀ (pins:List (Addr×Obj)) (s:Shared) (σ:St) (H:Hp) (x y:V) (v u:Value) (Q:VK),Inv X pins σ H s->RelV x v->RelV y u->r x y H Q ->
  wpAny (model X.prog X.w) X.A (f v u) (EP X pins σ Q) X.xe s
def UnR (X:Cx)(f:Value->Sem Value)(r:V->Hp->VK->Prop):Prop :=
 ∀ (pins:List (Addr×Obj)) (s:Shared) (σ:St) (H:Hp) (x:V) (v:Value) (Q:VK),Inv X pins σ H s->RelV x v->r x H Q ->
  wpAny (model X.prog X.w) X.A (f v) (EP X pins σ Q) X.xe s
def zCi (X:Cx)(f:Value)(r:List V->Hp->VK->Prop):Prop :=
 ∀ (pins:List (Addr×Obj)) (s:Shared) (σ:St) (H:Hp) (xs:List V) (us:List Value) (Q:VK),Inv X pins σ H s->Vals xs us->r xs H Q ->
  wpAny (model X.prog X.w) X.A (call f us) (EP X pins σ Q) X.xe s
def tOp (r:R2)(ta tb:TE):TE:=fun σ H Q=>ta σ H λx H1=>tb σ H1 λy H2=>r x y H2 Q
def tUn (r:V->Hp->VK->Prop)(ta:TE):TE:=fun σ H Q=>ta σ H λx H1=>r x H1 Q
def rI (C:Int->Int->Prop)(g:Int->Int->V):R2:=λx y H Q=>∃ i j,x=.int i/\y=.int j/\C i j/\Q (g i j) H
def rI0 (g:Int->Int->V):R2:=λx y H Q=>∃ i j,x=.int i/\y=.int j/\Q (g i j) H
def rU (g:Int->V):V->Hp->VK->Prop:=λx H Q=>∃ i,x=.int i/\Q (g i) H
section
variable {X:Cx}{a b c:Expr}{ta tb tc:TE}{pos:Pos}
theorem binT (j:PE X a ta)(n:PE X b tb){σ:St}{R:V->V->Hp->Prop}(I:Inv X pins σ H s)
  (h:ta σ H λx H1=>tb σ H1 λy H2=>R x y H2)  {f:Value->Value->Sem Value}
  (g:∀ v u s2 x y H2,Inv X pins σ H2 s2->RelV x v->RelV y u->R x y H2->wpAny (model X.prog X.w) X.A (f v u) Q X.xe s2) :
  wpAny (model X.prog X.w) X.A (eval a X.env) (λv O4=>wpAny (model X.prog X.w) X.A (eval b X.env) (λu O8=>wpAny (model X.prog X.w) X.A (f v u) Q X.xe O8) X.xe O4) X.xe s:=by
 refine thn (j pins s σ H _ I h) λv m d=>?_
 obtain⟨x,H1,e,r1,i⟩:=d;refine thn (n pins m σ H1 _ e i) λu s2 c=>?_
 obtain⟨y,H2,l,r2,k⟩:=c;exact g v u s2 x y H2 l r1 r2 k
theorem zSo (k:OpR X (binaryOp op) r)(i:PE X a ta)(f:PE X b tb):PE X (.BinOp a op b pos) (tOp r ta tb):=by
 intro c s σ H Q I h;exact wpAny_BinOp (binT i f I h λv u l x y d j g e q=>k c l σ d x y v u Q j g e q)
theorem zSn (d:UnR X (unaryOp op) r)(i:PE X a ta):PE X (.UnaryOp op a pos) (tUn r ta):=by
 intro b s σ H Q I h;exact UnaryOp_ (thn (i b s σ H _ I h) λv j c=>by obtain⟨x,e,f,r1,g⟩:=c;exact d b j σ e x v Q f r1 g)
theorem opI {g:Int->Int->Int}
  (a:∀ (i j:Int) (t u:Tok) (s:Shared) (Q:Value->Shared->Prop) (E:Value->Shared->Prop),C i j->Q (.int (g i j) s.toks) { s with toks:=s.toks+1 }->wpAny (model X.prog X.w) X.A (f (.int i t) (.int j u)) Q E s) :
  OpR X f (rI C λi j=>.int (g i j)):=by
 intro b s σ H x y v u Q I d c h;obtain⟨i,j,rfl,rfl,e,q⟩:=h;obtain⟨t,rfl⟩:=d;obtain⟨k,rfl⟩:=c;exact a i j t k s _ _ e ⟨.int _,H,I.tok _,⟨_,rfl⟩,q⟩
theorem opI0 {g:Int->Int->Int}
  (a:∀ (i j:Int) (t u:Tok) (s:Shared) (Q:Value->Shared->Prop) (E:Value->Shared->Prop),Q (.int (g i j) s.toks) { s with toks:=s.toks+1 }->wpAny (model X.prog X.w) X.A (f (.int i t) (.int j u)) Q E s) :
  OpR X f (rI0 λi j=>.int (g i j)):=by
 intro b s σ H x y v u Q I d c h;obtain⟨i,j,rfl,rfl,q⟩:=h;obtain⟨t,rfl⟩:=d;obtain⟨e,rfl⟩:=c;exact a i j t e s _ _ ⟨.int _,H,I.tok _,⟨_,rfl⟩,q⟩
theorem opB0 {g:Int->Int->Bool}
  (a:∀ (i j:Int) (t u:Tok) (s:Shared) (Q:Value->Shared->Prop) (E:Value->Shared->Prop),Q (.bool (g i j)) s->wpAny (model X.prog X.w) X.A (f (.int i t) (.int j u)) Q E s) :
  OpR X f (rI0 λi j=>.bl (g i j)):=by
 intro b s σ H x y v u Q I d e h;obtain⟨i,j,rfl,rfl,q⟩:=h;obtain⟨t,rfl⟩:=d;obtain⟨c,rfl⟩:=e;exact a i j t c s _ _ ⟨.bl _,H,I,rfl,q⟩
def CPow (i j:Int):Prop:=0<=j/\j<=1000000/\i.natAbs < 2^64
def CMul (i j:Int):Prop:=(-(2^64) < i/\i < 2^64)\/(-(2^64) < j/\j < 2^64)
theorem CMul.ok (h:CMul i j):IntMulOk i j:=by
 rcases h with ⟨a,b⟩ | ⟨a,b⟩
 .exact .of_left (intBits_le_64 a b)
 .exact .of_right (intBits_le_64 a b)
theorem zQt:OpR X (binaryOp .Add) (rI0 λi j=>.int (i+j)):=opI0 λ_ _ _ _ _ _ _ q=>add_int q
theorem zQk:OpR X (binaryOp .Pow) (rI CPow λi j=>.int (i^j.toNat)):=opI λ_ _ _ _ _ _ _ a q=>pow_int_small a.1 a.2.1 a.2.2 q
theorem unI {g:Int->Int}
  (a:∀ (i:Int) (t:Tok) (s:Shared) (Q:Value->Shared->Prop) (E:Value->Shared->Prop),Q (.int (g i) s.toks) { s with toks:=s.toks+1 }->wpAny (model X.prog X.w) X.A (f (.int i t)) Q E s) :
  UnR X f (rU λi=>.int (g i)):=by
 intro b s σ H x v Q I c h;obtain⟨i,rfl,q⟩:=h;obtain⟨t,rfl⟩:=c;exact a i t s _ _ ⟨.int _,H,I.tok _,⟨_,rfl⟩,q⟩
end
section
variable {X:Cx}{a b c:Expr}{ta tb tc:TE}{pos:Pos}
theorem zNW {σ:St}(I:Inv X pins σ H s)(q:Q (.bl k) H)(e:k=k'):EP X pins σ Q (.bool k') s:=by
 subst e;exact⟨.bl k,H,I,rfl,q⟩
theorem zQn:OpR X (compareOp .Lt) (rI0 λi j=>.bl (decide (i < j))):=opB0 λ_ _ _ _ _ _ _ q=>lt_int q
theorem zQo:OpR X (compareOp .LtE) (rI0 λi j=>.bl (decide (i<=j))):=opB0 λ_ _ _ _ _ _ _ q=>le_int q
theorem zQq:OpR X (compareOp .Gt) (rI0 λi j=>.bl (decide (j < i))):=opB0 λ_ _ _ _ _ _ _ q=>gt_int q
theorem zQr:OpR X (compareOp .GtE) (rI0 λi j=>.bl (decide (j<=i))):=opB0 λ_ _ _ _ _ _ _ q=>ge_int q
theorem zQp:OpR X (compareOp .Is) (λx y H Q=>y=.non/\Q (.bl (decide (x=.non))) H):=by
 intro a s σ H x y v u Q I c b h;obtain⟨rfl,q⟩:=h;cases b;refine is_none_gen (zNW I q ?_);cases x<;>first
  | rfl
  | obtain⟨t,rfl⟩:=c;rfl
theorem zOT:OpR X (compareOp .IsNot) (λx y H Q=>y=.non/\Q (.bl (!decide (x=.non))) H):=by
 intro a s σ H x y v u Q I b c h;obtain⟨rfl,q⟩:=h;cases c;refine isnot_none_gen (zNW I q ?_);cases x<;>first
  | rfl
  | obtain⟨t,rfl⟩:=b;rfl
theorem OpR.or (h:OpR X f r)(h':OpR X f r'):OpR X f (λx y H Q=>r x y H Q\/r' x y H Q):=by
 intro a s σ H x y v u Q I b c q;rcases q with q | q
 .exact h a s σ H x y v u Q I b c q
 .exact h' a s σ H x y v u Q I b c q
theorem zQv (b:Expr)(h:op≠.In:=by decide)(d:op≠.NotIn:=by decide):behindInMarks op b=false:=by
 have c:(op==CmpOp.In)=false:=by cases op<;>first | rfl | exact absurd rfl h
 have a:(op==CmpOp.NotIn)=false:=by cases op<;>first | rfl | exact absurd rfl d
 cases b<;>simp[behindInMarks,c,a]
theorem zI8 (k:OpR X (compareOp op) r)(l:PE X a ta)(f:PE X b tb)(j:behindInMarks op b=false):PE X (.Compare a [op] [b] pos) (tOp r ta tb):=by
 intro c s σ H Q I h;exact wpAny_Compare1 (binT l f I h λv u i x y m e g d q=>k c i σ m x y v u Q e g d q) j
def zP6 (t:TE):TT:=fun σ H Q=>t σ H λx H'=>∃ k,x=.bl k/\Q k H'
theorem zGZ (o:OpR X (compareOp op) r)(B:PE X a ta)(p:PE X b tb)(w:behindInMarks op b=false):PT X (.Compare a [op] [b] pos) (zP6 (tOp r ta tb)):=by
 intro c s σ H Q I h;refine wpAny_isTrue_Compare1 (thn (B c s σ H _ I h) λv A ⟨x,m,n,r1,i⟩=>thn (p c A σ m _ n i) λu q ⟨y,j,l,r2,t⟩ =>
  thn (o c q σ j x y v u _ l r1 r2 t) λc C ⟨z,f,d,r3,k,e,g⟩=>?_) w
 subst e;cases r3;exact wpAny_truthy_bool ⟨f,d,g⟩
def zIg (r r':R2)(ta tb tc:TE):TE:=fun σ H Q=>ta σ H λx H1=>tb σ H1 λy H2=>r x y H2 λz H3=>∃ k,z=.bl k /\
 (if k=true then tc σ H3 λw' H4=>r' y w' H4 Q else Q (.bl false) H3)
theorem zLZ (B:OpR X (compareOp op) r)(g:OpR X (compareOp op') r')(t:PE X a ta)(D:PE X b tb)(m:PE X c tc)
  (n:lastMarks [op,op'] [b,c]=false:=by with_unfolding_all rfl):PE X (.Compare a [op,op'] [b,c] pos) (zIg r r' ta tb tc):=by
 intro d s σ H Q I h;refine Compare_chain (thn (t d s σ H _ I h) λv L ⟨x,M,K,r1,N⟩=>chain_link (thn (D d L σ M _ K N) λu p ⟨y,q,w,r2,E⟩ =>
  thn (B d p σ q x y v u _ w r1 r2 E) λd F ⟨z,i,j,r3,k,e,l⟩=>?_)) n
 subst e;cases r3;refine wpAny_truthy_bool ?_;cases k with
 | false=>exact ite_ff ⟨.bl false,i,j,rfl,l⟩
 | true=>exact ite_tt (chain_last (thn (m d F σ i _ j l) λw' G f=>by obtain⟨O,C,J,A,o⟩:=f;exact g d G σ C y O u w' Q J r2 A o))
theorem zLQ (J:OpR X (compareOp op) r)(g:OpR X (compareOp op') r')(p:PE X a ta)(W:PE X b tb)(C:PE X c tc)
  (t:lastMarks [op,op'] [b,c]=false:=by with_unfolding_all rfl):PT X (.Compare a [op,op'] [b,c] pos) (zP6 (zIg r r' ta tb tc)):=by
 intro d s σ H Q I h;refine isTrue_chain (thn (p d s σ H _ I h) λv A ⟨x,O,o,r1,S⟩=>test_link (thn (W d A σ O _ o S) λu L ⟨y,U,K,r2,m⟩ =>
  thn (J d L σ U x y v u _ K r1 r2 m) λd w ⟨z,i,l,r3,k,e,j⟩=>?_)) t
 subst e;cases r3;refine wpAny_truthy_bool ?_;cases k with
 | false =>
  obtain⟨k',N,n⟩:=j;cases N;exact ite_ff ⟨i,l,n⟩
 | true =>
  refine ite_tt (test_last (thn (C d w σ i _ l j) λw' V ⟨D,P,R,q,F⟩=>thn (g d V σ P y D u w' _ R r2 q F) λd' s5 f=>?_));obtain⟨Y,M,B,G,Z,T,E⟩:=f;subst T;cases G;exact wpAny_truthy_bool ⟨M,B,E⟩
theorem zHQ:(sizeLine:Nat) < 2^63:=by decide
theorem zFa (r:Vals [x] us):∃ u,us=[u]/\RelV x u:=by
 cases r with
 | cons r1 r2=>cases r2;exact⟨_,rfl,r1⟩
theorem zHv (r:Vals [x,y] us):∃ u w',us=[u,w']/\RelV x u/\RelV y w':=by
 cases r with
 | cons r1 r2 =>
  cases r2 with
  | cons r3 a=>cases a;exact⟨_,_,rfl,r1,r3⟩
theorem zKt (b:X.calm=true):zCi X (.builtin "max") (λxs H Q=>∃ i j,xs=[.int i,.int j]/\Q (.int (if j>i then j else i)) H):=by
 intro a s σ H xs us Q I r h;obtain⟨i,j,rfl,q⟩:=h;obtain⟨u,c,rfl,⟨t,rfl⟩,⟨t',rfl⟩⟩:=zHv r;refine max_two_ints (I.ok.hd b) λh' d k=>⟨_,H,I.kept k,?_,q⟩
 by_cases hj:j>i
 .rw [if_pos hj,if_pos hj];exact⟨_,rfl⟩
 .rw [if_neg hj,if_neg hj];exact⟨_,rfl⟩
end
structure ObjM (h:Heap)(x dx C:Addr)(mA:Str->Option Value):Prop where
 obj:h.get? x=some (W.instObj C dx)
 ns:h.Ns1 dx mA
 ne:dx≠x
theorem zJY {h:Heap}(n:h.Ns1 dx mA):∃ od,h.get? dx=some od/\∀ name,W.lookIn name od=some (mA name):=by
 obtain⟨o,es,j,f,d,g,_,c⟩:=n;refine⟨o,f,λname=>?_⟩;have e:=c name;unfold nsFind findBy at e;unfold W.lookIn;rw[d];dsimp only;split
 .grind
 .rename_i q;have a:es.toList.any (·.refKey)=false:=by
   rw[List.any_eq_false];intro y i;obtain⟨z,t,b⟩:=g y (Array.mem_toList_iff.mp i);simp[DictEntry.refKey,b]
  grind
theorem ObjM.look (I:ObjM h x dx C mA):∃ od,W.InstAt h x (W.instObj C dx) C (some od)/\∀ name,W.lookIn name od=some (mA name) :=
 let ⟨od,ho,hl⟩:=zJY I.ns
 ⟨od,⟨I.obj,rfl,rfl,ho⟩,hl⟩
section
variable {prog:Program}{w:World}{A:Around}{E:Value->Shared->Prop}{s:Shared}{K:W.Frag}{x dx C f:Addr}{mA:Str->Option Value}{name:Str}{v:Value}
theorem zPL (X:K.In s.heap)(I:ObjM s.heap x dx C mA)(d:W.plainGet K C name=true)(b:W.hasDictIn K C=true)
  (c:W.findIn K (.ref C) name=some none) (g:mA name=some v) (a:W.handedIn v=true) (h:Q v { s with toks:=s.toks+1 }) :
  wpAny (model prog w) A (getAttr (.ref x) name expr) Q E s:=by
 obtain⟨f,J,e⟩:=I.look;exact W.get_value X J (W.plainGet_of d).1 (W.findObj_own b c rfl (by simp_all)) a h
theorem zMD (X:K.In s.heap)(I:ObjM s.heap x dx C mA)(a:W.plainGet K C name=true)
  (c:W.findIn K (.ref C) name=some (some (.ref f))) (d:W.isFn K (.ref f)=true) (g:mA name=none) (h:Q (.ref f,[.ref x]) s) :
  wpAny (model prog w) A (getMethod (.ref x) name pl) Q E s:=by
 obtain⟨b,J,e⟩:=I.look;exact W.method_fn X J (W.plainGet_of a).1 (W.plainGet_of a).2 c (beq_iff_eq.mp d) (by show (W.lookIn name b).map (·.isSome)=some false;rw[e,g];rfl) h
theorem zN4 (X:K.In s.heap)(I:ObjM s.heap x dx C mA)
  (n:W.findIn K (.ref C) "__setattr__"=some (some (.builtin "object.__setattr__"))) (p:W.plainOver K C=true) (i:W.takerIn K C name=some none) (o:W.hasDictIn K C=true)
  (k:PySem.Within mA ns) (hsz:ns.length<=sizeLine)
  (h:∀ h',ObjM h' x dx C (λy=>if y=name then some v else mA y)->Heap.SameBut dx s.heap h'->Q () { s with heap:=h',toks:=s.toks+2 }) :
  wpAny (model prog w) A (setAttr (.ref x) name v) Q E s:=by
 obtain⟨u,J,q⟩:=I.look;refine W.set_plain X J n (W.osa_open (s:={ s with toks:=s.toks+1 }) (r:=none) X J p i λb=>?_);obtain⟨z,l,d⟩:=W.any_some o;refine qQ (xj (qQ (qQ (wpAny_loadPart I.obj (qQ (W.Looks.here (s:={ s with toks:=s.toks+1 }) (W.looks_clsIn X l) ?_))))));rw[d];refine xj (a:=some dx) (qQ (xj (qQ ?_)));refine wpAny_nsSet1 (s:={ s with toks:=s.toks+1 }) I.ns λh' b c=>?_
 obtain⟨t,j,m,g,e,f⟩:=b.count (PySem.Within.cons name v k);refine qQ (wpAny_lookBehind g (by rw[e];exact pastItsLine_dict (le_trans f (by rw[x9];omega))) ?_);exact xj (h _ ⟨(c.2 _ (Ne.symm I.ne)).trans I.obj,b,I.ne⟩ c)
theorem zLk (X:K.In s.heap)(b:W.makesIn K C=true)
  (d:W.findIn K (.ref C) "__init__"=some (some (.ref f))) (c:W.typeIn K (.ref f)=some (.type "function"))
  (h:codeAny (model prog w) (A.under (.builtin "type.__call__" ⟨.ref C::vs,kw⟩)) (.call (.ref f) ⟨.ref (s.heap.objs.size+1)::vs,kw⟩) (W.InitBack (s.heap.objs.size+1) R)
   { s with heap:=(s.heap.push W.emptyDict).push (W.instObj C s.heap.objs.size) }) :
  codeAny (model prog w) A (.call (.ref C) ⟨vs,kw⟩) R s:=W.make_core (W.makes_of X b) (W.looks_findIn X d) (λself=>W.bind_fn X self c) (.inl rfl) h
end
noncomputable def putF (f:Str)(v:V):List (Str×V)->List (Str×V)
 | []=>[(f,v)]
 | (g,x)::r=>if g=f then (g,v)::r else (g,x)::putF f v r
theorem zCI (f g:Str)(v:V):∀ fs:List (Str×V),(putF f v fs).lookup g=if g=f then some v else fs.lookup g
 | []=>by
  show List.lookup g [(f,v)]=_;by_cases h:g=f
  .have hb:(g==f)=true:=beq_iff_eq.mpr h;simp only[List.lookup,hb,if_pos h]
  .have hb:(g==f)=false:=beq_eq_false_iff_ne.mpr h;simp only[List.lookup,hb,if_neg h]
 | (k,x)::r=>by
  have ih:=zCI f g v r;rw[show putF f v ((k,x)::r)=(if k=f then (k,v)::r else (k,x)::putF f v r) from rfl];by_cases hk:k=f
  .rw [if_pos hk];by_cases h:g=k
   .have hb:(g==k)=true:=beq_iff_eq.mpr h;simp only[List.lookup,hb,if_pos (h.trans hk)]
   .have hb:(g==k)=false:=beq_eq_false_iff_ne.mpr h;simp only[List.lookup,hb,if_neg (λe:g=f=>h (e.trans hk.symm))]
  .rw [if_neg hk];by_cases h:g=k
   .have hb:(g==k)=true:=beq_iff_eq.mpr h;simp only[List.lookup,hb,if_neg (λe:g=f=>hk (h.symm.trans e))]
   .have hb:(g==k)=false:=beq_eq_false_iff_ne.mpr h;simp only[List.lookup,hb];exact ih
theorem zD2 (f:Str)(v:V):∀ fs:List (Str×V),f∈(putF f v fs).map (·.1)/\∀ g,g∈fs.map (·.1)->g∈(putF f v fs).map (·.1)
 | []=>⟨by simp[putF],λg h=>by simp at h⟩
 | (k,x)::r=>by
  obtain⟨i1,i2⟩:=zD2 f v r;rw[show putF f v ((k,x)::r)=(if k=f then (k,v)::r else (k,x)::putF f v r) from rfl];by_cases hk:k=f
  .rw [if_pos hk];subst hk;exact⟨by simp,λg h=>by simpa using h⟩
  .rw [if_neg hk];refine⟨?_,λg h=>?_⟩
   .rw [map_cons];exact qY _ i1
   .rw [map_cons] at h ⊢;rcases mem_cons.mp h with e | e
    .exact mem_cons.mpr (.inl e)
    .exact qY _ (i2 g e)
theorem zD1 (f:Str)(v:V):∀ fs:List (Str×V),(putF f v fs).length<=fs.length+1
 | []=>by simp[putF]
 | (k,x)::r=>by
  have ih:=zD1 f v r;rw[show putF f v ((k,x)::r)=(if k=f then (k,v)::r else (k,x)::putF f v r) from rfl];by_cases hk:k=f
  .rw [if_pos hk,x9,x9];omega
  .rw [if_neg hk,x9,x9];omega
theorem RelO.some_of (r:RelO (some v) o):∃ u,o=some u/\RelV v u:=by
 cases o with
 | none=>exact r.elim
 | some u=>exact⟨u,rfl,r⟩
theorem RelO.none_of (r:RelO none o):o=none:=by
 cases o with
 | none=>rfl
 | some u=>exact r.elim
theorem zJv (r:RelV v u):W.handedIn u=true:=by
 cases v with
 | non=>cases r;rfl
 | bl b=>cases r;rfl
 | int i=>obtain⟨t,e⟩:=r;cases e;rfl
 | str x=>obtain⟨t,e⟩:=r;cases e;rfl
 | byt b=>obtain⟨t,e⟩:=r;cases e;rfl
 | flt b=>obtain⟨t,e⟩:=r;cases e;rfl
 | ref a=>cases r;rfl
 | ty n=>cases r;rfl
section
variable {P:Program}{w:World}{H H':Hp}{h h':Heap}{a C dx:Addr}{fs fs':List (Str×V)}
theorem zGp (b:HOk P w H h)(e:H a=some (.ins C dx fs)):∃ mA,ObjM h a dx C mA/\(∀ f,RelO (fs.lookup f) (mA f))/\PySem.Within mA (fs.map (·.1))/\fs.length<=1000/\H dx=some (.own a):=by
 obtain⟨d,z,c,ob,mA,n,r,q⟩:=b a _ e;exact⟨mA,⟨ob,n,c⟩,r,q,z,d⟩
end
structure Cls (K:W.Frag)(C:Addr):Prop where
 pg:W.plainGet K C Str.empty=true
 hd:W.hasDictIn K C=true
 po:W.plainOver K C=true
 sa:W.findIn K (.ref C) "__setattr__"=some (some (.builtin "object.__setattr__"))
theorem Cls.get {K:W.Frag}(c:Cls K C)(f:Str):W.plainGet K C f=true:=c.pg
def zBM (K:W.Frag)(C:Addr)(f:Str):Prop:=W.findIn K (.ref C) f=some none
theorem zBM.taker {K:W.Frag}(n:zBM K C f):W.takerIn K C f=some none:=by
 unfold W.takerIn;rw[show W.findIn K _ f=some none from n]
 rfl
structure Meth (K:W.Frag)(C:Addr)(m:Str)(f:Addr):Prop where
 at_:W.findIn K (.ref C) m=some (some (.ref f))
 fn:W.isFn K (.ref f)=true
 kp:W.keepIn K (.ref f)=true
section
variable {X:Cx}{pins:List (Addr×Obj)}{σ:St}{H:Hp}{s:Shared}{a C dx:Addr}{fs:List (Str×V)}{f:Str}{v:V}{A:Around}{E:Value->Shared->Prop}
theorem zEf (I:Inv X pins σ H s)(e:H a=some (.ins C dx fs))(c:Cls X.K C)(n:zBM X.K C f)(l:fs.lookup f=some v)
  (h:∀ u s',Inv X pins σ H s'->RelV v u->Q u s'):wpAny (model X.prog X.w) A (getAttr (.ref a) f b) Q E s:=by
 obtain⟨i,O,r,_,_,_⟩:=zGp I.hok e;obtain⟨u,g,d⟩:=RelO.some_of (by rw[<- l];exact r f);exact zPL I.kIn O (c.get f) c.hd n g (zJv d) (h u _ (I.tok _) d)
theorem zDI (I:Inv X pins σ H s)(e:H a=some (.ins C dx fs))(c:Cls X.K C)(k:Meth X.K C m g)(l:fs.lookup m=none)
  (h:Q (.ref g,[.ref a]) s):wpAny (model X.prog X.w) A (getMethod (.ref a) m pl) Q E s:=by
 obtain⟨b,O,r,_,_,_⟩:=zGp I.hok e;exact zMD I.kIn O (c.get m) k.at_ k.fn (RelO.none_of (by rw[<- l];exact r m)) h
theorem zEX (I:Inv X pins σ H s)(e:H a=some (.ins C dx fs))(c:Cls X.K C)(n:zBM X.K C f)(v:fs.length < 1000)(k:RelV y u)
  (h:∀ s',Inv X pins σ (upd H a (.ins C dx (putF f y fs))) s'->Q () s'):wpAny (model X.prog X.w) A (setAttr (.ref a) f u) Q E s:=by
 obtain⟨t,O,r,i,_,j⟩:=zGp I.hok e;refine zN4 I.kIn O c.sa c.po n.taker c.hd i (by rw[List.length_map,sizeLine_eq];omega) λh' d l=>h _ ?_
 refine I.write (x:=a) (e:=dx) (by rw[e];exact True.intro) (.inr j) (λb q m z=>(l.2 b m).trans z) (let ⟨o,_,_,e',_⟩:=d.ns;⟨o,e'⟩) ?_;refine⟨by rw[zAI O.ne];exact j,?_,O.ne,d.obj,_,d.ns,λg=>?_,λg p=>?_⟩
 .have:=zD1 f y fs;omega
 .show RelO ((putF f y fs).lookup g) (if g=f then some u else t g);rw[zCI];by_cases q:g=f
  .rw [if_pos q,if_pos q];exact k
  .rw [if_neg q,if_neg q];exact r g
 .by_cases q:g=f
  .rw [q];exact(zD2 f y fs).1
  .refine (zD2 f y fs).2 g (i g λz=>p ?_);grind
theorem Inv.made (I:Inv X pins σ H s):Inv X pins σ (upd (upd H s.heap.objs.size (.own (s.heap.objs.size+1))) (s.heap.objs.size+1) (.ins C s.heap.objs.size []))
  { s with heap:=(s.heap.push W.emptyDict).push (W.instObj C s.heap.objs.size) }:=by
 have b:(s.heap.push W.emptyDict).get? s.heap.objs.size=some W.emptyDict:=get?_push_size s.heap rfl;have d:((s.heap.push W.emptyDict).push (W.instObj C s.heap.objs.size)).get? (s.heap.objs.size+1)=some (W.instObj C s.heap.objs.size):=by
  have:=get?_push_size (s.heap.push W.emptyDict) (o:=W.instObj C s.heap.objs.size) rfl
  simp_all
 refine(I.laid (o:=.own _) (t':=s.toks) (λb u q=>get?_push_of_some _ q) (le_refl _) ⟨_,b⟩).laid (λb u q=>get?_push_of_some _ q) (Nat.le_of_eq (Heap.size_push _ _)) ?_;have a:s.heap.objs.size≠s.heap.objs.size+1:=ne_of_lt (Nat.lt_succ_self _);refine⟨by rw[zAI a,zAJ],zero_le _,a,d,λ_=>none,(Heap.Ns1.of_empty (⟨W.emptyDict,#[],_,b,rfl,λe c=>absurd c (by simp),λ_=>rfl⟩)).at λo q=>get?_push_of_some _ q,λ_=>True.intro,λy e=>absurd rfl e⟩
end
def tFld (K:W.Frag)(ta:TE)(f:Str):TE:=fun σ H Q=>ta σ H λx H1=>∃ a C dx fs v,x=.ref a/\H1 a=some (.ins C dx fs)/\Cls K C/\zBM K C f/\fs.lookup f=some v/\Q v H1
def sFld (K:W.Frag)(ta tv:TE)(f:Str):TS:=λD σ H=>tv σ H λy H1=>ta σ H1 λx H2=>∃ a C dx fs,x=.ref a/\H2 a=some (.ins C dx fs)/\Cls K C/\zBM K C f/\fs.length < 1000 /\
 D.nx σ (upd H2 a (.ins C dx (putF f y fs)))
def InOp (X:Cx)(op:Operator)(rd:V->V->Hp->VK->Prop):Prop :=
 ∀ (pins:List (Addr×Obj)) (s:Shared) (σ:St) (H:Hp) (x y:V) (u v:Value) (Q:VK),Inv X pins σ H s->RelV x u->RelV y v->rd x y H Q->wpAny (model X.prog X.w) X.A (inplaceOp op u v) (EP X pins σ Q) X.xe s
def zN5 (K:W.Frag)(ta tv:TE)(rd:V->V->Hp->VK->Prop)(f:Str):TS:=λD σ H=>ta σ H λx H1=>∃ a C dx fs v,x=.ref a/\H1 a=some (.ins C dx fs)/\Cls K C/\zBM K C f/\fs.lookup f=some v /\
 tv σ H1 λy H2=>rd v y H2 λz H3=>∃ dx' fs',H3 a=some (.ins C dx' fs')/\fs'.length < 1000/\D.nx σ (upd H3 a (.ins C dx' (putF f z fs')))
section
variable {X:Cx}{o e value:Expr}{f:Str}{pos pos' tpos:Pos}{ta tv:TE}
theorem zNC (k:PE X e ta)(o:attributeBase e f X.env (eval e X.env)=eval e X.env):PE X (.Attribute e f pos) (tFld X.K ta f):=by
 intro b s σ H Q I h;refine (Attribute_any_ (thn (k b s σ H _ I h) λu w d=>?_) (by rw[arm_eval_Attribute,o]));obtain⟨x,t,p,j,a,C,z,fs,v,r,i,c,n,l,q⟩:=d;subst r;obtain rfl:u=Value.ref a:=j;exact zEf p i c n l λu' y m g=>⟨v,t,m,g,q⟩
theorem zM8 (w:PE X o ta)(v:PE X value tv)(p:swapsWith value (some (.Attribute o f pos')) pos.line X.env=pure false):PS X (.Assign [.Attribute o f pos'] value pos) (sFld X.K ta tv f):=by
 intro b s σ H D I h;refine plainObj_wpAny_Assign_Attribute (thn (v b s σ H _ I h) λu j ⟨y,i,m,r,q⟩=>thn (w b j σ i _ m q) λov E d=>?_) p;obtain⟨x,B,e,t,a,C,A,fs,k,g,c,n,l,u⟩:=d;subst k;obtain rfl:ov=Value.ref a:=t;exact zEX e g c n l r λs3 z=>⟨σ,_,z,u⟩
theorem zI0 (G:PE X o ta)(F:PE X value tv)(g:InOp X op rd):PS X (.AugAssign (.Attribute o f tpos) op value pos) (zN5 X.K ta tv rd f):=by
 intro b s σ H D I h;refine wpAny_AugAssign_AttributeAny (thn (G b s σ H _ I h) λov Y e=>?_);obtain⟨x,k,j,A,a,C,V,fs,v,Q,S,c,n,l,q⟩:=e;subst Q;obtain rfl:ov=Value.ref a:=A;refine zEf j S c n l λu R t B=>thn (F b R σ k _ t q) λw3 O ⟨y,w,M,r,P⟩=>thn (g b O σ w v y u w3 _ M B r P) λw4 W d=>?_
 obtain⟨z,U,E,N,J,K,i,m,p⟩:=d;exact zEX E i c n m N λs5 L=>⟨σ,_,L,p⟩
def rAdd:V->V->Hp->VK->Prop:=λx y H Q=>∃ i j,x=.int i/\y=.int j/\Q (.int (i+j)) H
theorem zRI:InOp X .Add rAdd:=by
 rintro b s σ H x y u v Q I c d ⟨i,j,rfl,rfl,q⟩;obtain⟨t,rfl⟩:=(show ∃ t,u=Value.int i t from c);obtain⟨a,rfl⟩:=(show ∃ a,v=Value.int j a from d);exact PyProof.Rows.iadd_int ⟨.int (i+j),H,I.tok _,⟨_,rfl⟩,q⟩
end
section
variable {X:Cx}{pins:List (Addr×Obj)}{σ:St}{H:Hp}{s:Shared}{A:Around}{E:Value->Shared->Prop}{Q:Value->Shared->Prop}{c:Value}{b:Bool}
inductive TyOf (K:W.Frag) (H:Hp):V->Value->Prop where
 | non:TyOf K H .non (.type "NoneType")
 | bl (x:Bool):TyOf K H (.bl x) (.type "bool")
 | int (i:Int):TyOf K H (.int i) (.type "int")
 | str (x:Str):TyOf K H (.str x) (.type "str")
 | flt (x:UInt64):TyOf K H (.flt x) (.type "float")
 | lst {a:Addr} {xs:List V} (e:H a=some (.lst xs)):TyOf K H (.ref a) (.type "list")
 | frz {a:Addr} {o:Obj} {xs:List V} (e:H a=some (.frz o (.lst xs))):TyOf K H (.ref a) (.type "list")
 | tup {a:Addr} {xs:List V} (e:H a=some (.tup xs)):TyOf K H (.ref a) (.type "tuple")
 | dK {a:Addr} {kvs:List (Key×V)} (e:H a=some (.dK kvs)):TyOf K H (.ref a) (.type "dict")
 | dT {a:Addr} {kvs:List (List Key×V)} (e:H a=some (.dT kvs)):TyOf K H (.ref a) (.type "dict")
 | ins {a C dx:Addr} {fs:List (Str×V)} (e:H a=some (.ins C dx fs)) (cl:Cls K C) (ha:W.findIn K (.ref C) "__class__"=some (some (.builtin "object.__class__")))
   (hn:W.specialIn K (.builtin "object.__class__") "__get__"=some (some (.builtin "getset_descriptor.__get__"))) (htk:W.takesIn K (.builtin "object.__class__")=some true)
   (hm:W.mroIn K C (.type "object")=some true):TyOf K H (.ref a) (.ref C)
end
structure Room (k:Nat)(A:Around):Prop where
 hd:A.handled=none
 dp:A.depth+3*k+105 < recursionLimit
 un:A.units+16*k+200 < cLine
theorem Room.mono (r:Room k A)(h:j<=k):Room j A:=⟨r.hd,by have:=r.dp;omega,by have:=r.un;omega⟩
theorem Room.deeper (r:Room (k+1) A)(env:Env):Room k (A.deeper env) :=
 ⟨r.hd,by have:=r.dp;show A.depth+1+3*k+105 < _;omega,by have:=r.un;show A.units+3+16*k+200 < _;omega⟩
theorem Room.in1 (r:Room (k+1) A):Room k A.in1 :=
 ⟨r.hd,by have:=r.dp;show A.depth+3*k+105 < _;omega,by have:=r.un;show A.units+1+16*k+200 < _;omega⟩
theorem zIE {A:Around}:(A.under (.builtin "type.__call__" ⟨.ref C::us,kw⟩)).depth=A.depth+1:=rfl
theorem zID {A:Around}:(A.under (.builtin "type.__call__" ⟨.ref C::us,kw⟩)).units=A.units+1:=rfl
theorem Room.make (r:Room (k+1) A)(C:Addr)(us:List Value)(kw:List (Str×Value)):Room k (A.under (.builtin "type.__call__" ⟨.ref C::us,kw⟩)) :=
 ⟨r.hd,by have:=r.dp;rw[zIE];omega,by have:=r.un;rw[zID];omega⟩
theorem Room.depth (r:Room k A):A.depth < recursionLimit:=by have:=r.dp;omega
theorem Room.units (r:Room k A):A.units+64 < cLine:=by have:=r.un;omega
def tNil:TA:=λ_ H Q=>Q [] H
def zQC (ta:TE)(tr:TA):TA:=fun σ H Q=>ta σ H λx H1=>tr σ H1 λxs H2=>Q (x::xs) H2
section
variable {X:Cx}{e:Expr}{es:List Expr}{te:TE}{t:TA}{pos:Pos}
theorem zAs:PA X [] tNil:=λ_ _ _ _ H Q I h=>Calls.spliced_nil ⟨[],H,I,.nil,h⟩
theorem zAR (k:PE X e te)(i:PA X es t)(j:starEach (e::es) X.env=(false,eval e X.env)::starEach es X.env:=by rfl):PA X (e::es) (zQC te t):=by
 intro d a s σ H Q I h;rw[j];show wpAny _ _ (spliced ((false,eval e X.env)::backTo d (starEach es X.env))) _ _ s;refine Calls.spliced_cons (thn (k a s σ H _ I h) λu f c=>?_);obtain⟨x,n,m,r1,p⟩:=c;exact thn (i d a f σ n _ m p) λus r b=>by obtain⟨q,l,g,r2,o⟩:=b;exact⟨x::q,l,g,.cons r1 r2,o⟩
def tTup (t:TA):TE:=fun σ H Q=>t σ H λxs H1=>xs.length<=sizeLine/\∀ p,H1 p=none->Q (.ref p) (upd H1 p (.tup xs))
def tLst (t:TA):TE:=fun σ H Q=>t σ H λxs H1=>xs.length<=sizeLine/\∀ p,H1 p=none->Q (.ref p) (upd H1 p (.lst xs))
theorem zI6 {x1}(h:PA X es t):PE X (.Tuple es x1 pos) (tTup t):=by
 intro a s σ H Q I d;refine wpAny_Tuple_spliced (thn (h pos a s σ H _ I d) λus c ⟨g,f,b,r,z,q⟩=>⟨by rw[<- r.length];exact z,?_⟩);refine⟨.ref c.heap.objs.size,upd f c.heap.objs.size _,b.laid (λb u e=>get?_push_of_some _ e) (le_refl _) ?_,rfl,q _ (b.hok.fresh (le_refl _))⟩;exact⟨z,us,r,⟨_,get?_push_size _ rfl,rfl,_,rfl⟩⟩
theorem zNB (h:PA X es t):PE X (.List es pos) (tLst t):=by
 intro a s σ H Q I f;refine wpAny_List_spliced (thn (h pos a s σ H _ I f) λus c ⟨g,d,b,r,z,q⟩=>⟨by rw[<- r.length];exact z,?_⟩);refine⟨.ref c.heap.objs.size,upd d c.heap.objs.size _,b.laid (λb u e=>get?_push_of_some _ e) (le_refl _) ?_,rfl,q _ (b.hok.fresh (le_refl _))⟩;exact⟨z,us,0,r,get?_push_size _ rfl⟩
end
abbrev Sp:=List V->Hp->VK->XK->Prop
abbrev CXT:=List Env->Hp->Shared->XK->Value->Shared->Prop
structure Env0 (P:Program)(w:World)(K:W.Frag)(mg:Str->Option Value)(base:Heap)(A:Around)(outer:List Env)(s:Shared)(H:Hp):Prop where
 frames:A.frames=some outer
 mod:Mod K mg base
 bs:∀ b o,base.get? b=some o->s.heap.get? b=some o/\H b=none
 bsz:base.objs.size<=s.heap.objs.size
 funs:s.heap.FunFrames base outer
 frf:∀ b∈frs outer,H b=none
 hok:HOk P w H s.heap
 bare:AllBare s.gens
 tree:(model P w).prog.given.tree=none
 tabs:zHq K H
def CE (outer:List Env)(P:Program)(w:World)(H:Hp)(s:Shared)(Q:VK)(u:Value)(s':Shared):Prop :=
 ∃ v H',s'.os=s.os/\AllBare s'.gens/\Un (frs outer) [] H H' s.heap s'.heap/\HOk P w H' s'.heap/\RelV v u/\Q v H'
def CR (CX:CXT)(outer:List Env)(P:Program)(w:World)(H:Hp)(s:Shared)(Q:VK)(E:XK)(r:Result)(s':Shared):Prop :=
 match r with
 | .ok (.ret u)=>CE outer P w H s Q u s'
 | .ok _=>False
 | .error e=>CX outer H s E e s'
structure FnOk (P:Program)(w:World)(K:W.Frag)(mg:Str->Option Value)(base:Heap)(CX:CXT)(k:Nat)(f:Addr)(fd:FuncData)(ps:List Str)(sp:Sp):Prop where
 len:∀ vs H Q E,sp vs H Q E->vs.length=ps.length
 run:∀ (A:Around) (outer:List Env) (s:Shared) (H:Hp) (args:Args) (us:List Value) (vs:List V) (Q:VK) (E:XK),Room k A->Env0 P w K mg base A outer s H->BindsTo s fd args (ps.zip us)->Vals vs us->sp vs H Q E ->
  codeAny (model P w) A (.call (.ref f) args) (CR CX outer P w H s Q E) s
theorem FnOk.mono {K:W.Frag}(F:FnOk P w K mg base CX j f fd ps sp)(h:j<=k) :
  FnOk P w K mg base CX k f fd ps sp:=⟨F.len,λA a s H b us d Q E c=>F.run A a s H b us d Q E (c.mono h)⟩
theorem FnOk.imp {K:W.Frag}(F:FnOk P w K mg base CX k f fd ps sp)
  (h:∀ vs H Q E,sp' vs H Q E->sp vs H Q E):FnOk P w K mg base CX k f fd ps sp' :=
 ⟨λvs H Q E q=>F.len vs H Q E (h _ _ _ _ q),λA a s H b us vs Q E c i d e g=>F.run A a s H b us vs Q E c i d e (h _ _ _ _ g)⟩
theorem Env0.make {K:W.Frag}(e:Env0 P w K mg base A outer s H)(C:Addr)(us:List Value)(kw:List (Str×Value)) :
  Env0 P w K mg base (A.under (.builtin "type.__call__" ⟨.ref C::us,kw⟩)) outer s H:=⟨by first | exact e.frames | simpa using e.frames,e.mod,e.bs,e.bsz,e.funs,e.frf,e.hok,e.bare,e.tree,e.tabs⟩
theorem Env0.in1 {K:W.Frag}(e:Env0 P w K mg base A outer s H) :
  Env0 P w K mg base A.in1 outer s H:=⟨e.frames,e.mod,e.bs,e.bsz,e.funs,e.frf,e.hok,e.bare,e.tree,e.tabs⟩
section
variable {X:Cx}{pins:List (Addr×Obj)}{σ:St}{H:Hp}{s s':Shared}
theorem Inv.env0 (I:Inv X pins σ H s):Env0 X.prog X.w X.K X.mg X.base X.A X.stack s H :=
 ⟨I.ok.frames,I.ok.mod,I.bs,le_trans I.ok.bsz I.sz,I.stack,I.stkFree,I.hok,I.bare,I.ok.pyl.2.1,I.tabs⟩
theorem Inv.after (I:Inv X pins σ H s)(h:CE X.stack X.prog X.w H s Q u s'):EP X pins σ Q u s':=by
 obtain⟨v,e,i,a,un,b,r,q⟩:=h;obtain⟨f,g,d,t,c⟩:=s'
 simp_all
 exact⟨v,e,I.call un b a λb z=>absurd z (by simp),r,q⟩
end
def zLH (sp:Sp)(dvs:List V)(E:XK)(t:TA):TE:=fun σ H Q=>t σ H λvs H1=>sp (vs++dvs) H1 Q E
def zP9 (C:Addr)(m:Str)(sp:Sp)(dvs:List V)(E:XK)(ta:TE)(t:TA):TE:=fun σ H Q=>ta σ H λx H1=>∃ a dx fs,x=.ref a/\H1 a=some (.ins C dx fs)/\fs.lookup m=none /\
 t σ H1 λvs H2=>sp (x::(vs++dvs)) H2 Q E
def zBJ (K:W.Frag)(fd:FuncData)(ps:List Str)(ds:List Value):Prop :=
 ∀ (s:Shared) (us:List Value),K.In s.heap->(us++ds).length=ps.length->BindsTo s fd ⟨us,[]⟩ (ps.zip (us++ds))
theorem zBJ.all {K:W.Frag}(h:∀ us:List Value,us.length=ps.length->bindArgs fd ⟨us,[]⟩=pure (ps.zip us)):zBJ K fd ps []:=λs us _ a=>by
 simp_all
 exact .of_eq (h us a)
def zEl (CX:CXT)(X:Cx)(E:XK):Prop:=∀ (pins:List (Addr×Obj)) (σ:St) (H:Hp) (s:Shared) (e:Value) (s':Shared),Inv X pins σ H s->CX X.stack H s E e s'->X.xe e s'
section
variable {X:Cx}{CX:CXT}{k:Nat}{f C:Addr}{fd:FuncData}{ps:List Str}{sp:Sp}{dvs:List V}{ds:List Value}{E:XK}{x m:Str}{p pos apos:Pos}{e o:Expr}{es:List Expr}{ta:TE}{t:TA}
theorem zFh {σ:St}(F:FnOk X.prog X.w X.K X.mg X.base CX k f fd ps sp)(g:Room k X.A)(b:zBJ X.K fd ps ds)(c:Vals dvs ds)(d:zEl CX X E)
  (I:Inv X pins σ H s) (r:Vals vs us) (h:sp (vs++dvs) H Q E):wpAny (model X.prog X.w) X.A (call (.ref f) us) (EP X pins σ Q) X.xe s:=by
 have r2:=r.append c;refine wpAny_call (codeAny_mono (F.run X.A X.stack s H _ _ _ Q E g I.env0 (b s us I.kIn (by rw[<- r2.length];exact F.len _ _ _ _ h)) r2 h) λr i a=>?_);cases r with
 | error e=>exact d pins σ H s e i I a
 | ok j =>
  cases j with
  | ret u=>exact I.after a
  | next=>exact False.elim a
  | brk=>exact False.elim a
  | cont=>exact False.elim a
theorem zI9 (F:FnOk X.prog X.w X.K X.mg X.base CX k f fd ps sp)(o:Room k X.A)(l:Gl X x)(j:X.mg x=some (.ref f))(v:W.keepIn X.K (.ref f)=true)(m:zBJ X.K fd ps ds)(g:Vals dvs ds)(n:zEl CX X E)
  (u:PA X (e::es) t) (b:(x==("__debug__":Str))=false:=by decide) (i:starEach (e::es) X.env=(false,eval e X.env)::starEach es X.env:=by rfl) (c:(backTo pos (starEach es X.env)).any (·.1)=false:=by rfl) :
  PE X (.Call (.Name x p) (e::es) [] pos) (zLH sp dvs E t):=by
 intro a s σ H Q I h;refine wpAny_Call_Name_kw (zDG I l j ?_ b);refine W.callWith_K I.ok.mod.kin v (thn (u pos a s σ H _ I h) λus y ⟨w,z,d,r,q⟩=>⟨d.kIn,?_⟩) i c;exact zFh F o m g n d r q
theorem zLa (F:FnOk X.prog X.w X.K X.mg X.base CX k f fd ps sp)(c:Room k X.A)(j:Gl X x)(e:X.mg x=some (.ref f))(d:W.keepIn X.K (.ref f)=true)(g:zBJ X.K fd ps ds)(i:Vals dvs ds)(l:zEl CX X E)
  (a:(x==("__debug__":Str))=false:=by decide):PE X (.Call (.Name x p) [] [] pos) (zLH sp dvs E tNil):=by
 intro b s σ H Q I h;refine wpAny_Call_Name_kw (zDG I j e ?_ a);exact W.callWith_K0 I.kIn d (zFh F c g i l I .nil h)
theorem zOI {pl:Sem Bool}(he:PE X o ta)(c:Cls X.K C)(hm:Meth X.K C m f)(F:FnOk X.prog X.w X.K X.mg X.base CX k f fd ps sp)(hr:Room k X.A)(hb:zBJ X.K fd ps ds)(hd:Vals dvs ds)(hx:zEl CX X E)(ha:PA X (e::es) t)
  (hst:starEach (e::es) X.env=(false,eval e X.env)::starEach es X.env:=by rfl) (hpl:(backTo pos (starEach es X.env)).any (·.1)=false:=by rfl)
  (ht:eval (.Call (.Attribute o m apos) (e::es) [] pos) X.env=(do
   let ov<-eval o X.env
   standAt apos.atName
   let (f,first)<-holding [ov] (getMethod ov m pl)
   callWith pos f first (backTo pos (starEach (e::es) X.env)) (backToKw pos (keywordEach [] X.env))):=by rfl) :
  PE X (.Call (.Attribute o m apos) (e::es) [] pos) (zP9 C m sp dvs E ta t):=by
 intro pins s σ H Q I h;refine W.methodCall_KW (pl:=pl) (thn (he pins s σ H _ I h) λu s1 zz32=>?_) ht;obtain⟨x,H1,I1,rx,a,dx,fs,ex,ea,l,q⟩:=zz32;subst ex;obtain rfl:u=Value.ref a:=rx;refine zDI I1 ea c hm l ?_;refine W.callWith_K (first:=[.ref a]) (h₀:=X.base) I.ok.mod.kin hm.kp (thn (ha pos pins s1 σ H1 _ I1 q) λus s2 ⟨vs,H2,I2,r,q2⟩=>⟨I2.kIn,?_⟩) hst hpl;exact zFh (us:=.ref a::us) (vs:=.ref a::vs) F hr hb hd hx I2 (.cons rfl r) q2
theorem zLV {pl:Sem Bool}(he:PE X o ta)(c:Cls X.K C)(hm:Meth X.K C m f)(F:FnOk X.prog X.w X.K X.mg X.base CX k f fd ps sp)(hr:Room k X.A)(hb:zBJ X.K fd ps ds)(hd:Vals dvs ds)(hx:zEl CX X E)
  (ht:eval (.Call (.Attribute o m apos) [] [] pos) X.env=(do
   let ov<-eval o X.env
   standAt apos.atName
   let (f,first)<-holding [ov] (getMethod ov m pl)
   callWith pos f first (backTo pos (starEach [] X.env)) (backToKw pos (keywordEach [] X.env))):=by rfl) :
  PE X (.Call (.Attribute o m apos) [] [] pos) (zP9 C m sp dvs E ta tNil):=by
 intro pins s σ H Q I h;refine W.methodCall_KW (pl:=pl) (thn (he pins s σ H _ I h) λu s1 zz33=>?_) ht;obtain⟨x,H1,I1,rx,a,dx,fs,ex,ea,l,q⟩:=zz33;subst ex;obtain rfl:u=Value.ref a:=rx;refine zDI I1 ea c hm l ?_;exact W.callWith_K0 (first:=[.ref a]) I1.kIn hm.kp (zFh (us:=[.ref a]) (vs:=[.ref a]) F hr hb hd hx I1 (.cons rfl .nil) q)
structure Mk (K:W.Frag)(C f:Addr):Prop where
 makes:W.makesIn K C=true
 init:W.findIn K (.ref C) "__init__"=some (some (.ref f))
 fn:W.isFn K (.ref f)=true
 kp:W.keepIn K (.ref C)=true
end
noncomputable def PK (X:Cx)(kws:List Keyword)(t:TA):Prop :=
 ∀ (pos:Pos) (pins:List (Addr×Obj)) (s:Shared) (σ:St) (H:Hp) (Q:List V->Hp->Prop),Inv X pins σ H s->t σ H Q->wpAny (model X.prog X.w) X.A (evalAll ((backToKw pos (keywordEach kws X.env)).map (·.2))) (AP X pins σ Q) X.xe s
structure zAV (N P:List Str)(sc:Scope):Prop where
 kind:sc.kind=.function
 co:sc.isCoroutine=false
 gen:sc.isGenerator=false
 nd:N.Nodup
 pre:N.take P.length=P
 par:∀ x∈P,sc.names.lookup x=some .local\/sc.names.lookup x=some .cell
 nofree:∀ y∈sc.names,y.2≠.free
theorem zGL {a:Str->Option NameKind}:∀ {binds:List (Str×Value)} {m:Str->Option Value},(∀ v,(x,v)∉binds)->bindL a binds m x=m x
 | [],_,_=>rfl
 | (n,v)::r,m,h=>by
  unfold bindL;rw[zGL λw hw=>h w (qY _ hw)];split
  .have:x≠n:=by rintro rfl;exact h v xy
   simp[this]
  .rfl
theorem zGN {a:Str->Option NameKind}:∀ {binds:List (Str×Value)} {m:Str->Option Value},(∀ v,(x,v)∉binds)->bindC a binds m x=m x
 | [],_,_=>rfl
 | (n,v)::r,m,h=>by
  unfold bindC;rw[zGN λw hw=>h w (qY _ hw)];split
  .rfl
  .have:x≠n:=by rintro rfl;exact h v xy
   simp[this]
theorem zGM {kindOf:Str->Option NameKind}:∀ {P:List Str} {vs:List Value} {i:Nat} {m:Str->Option Value},P.Nodup->P[i]?=some x->vs[i]?=some v->kindOf x=some .local ->
  bindL kindOf (P.zip vs) m x=some v
 | [],_,_,_,_,h,_,_=>by simp at h
 | _::_,[],_,_,_,_,h,_=>by simp at h
 | p::P,w::vs,0,m,nd,h1,h2,hk=>by
  simp at h1 h2;subst h1;subst h2;show bindL kindOf ((p,w)::P.zip vs) m p=_;unfold bindL;rw[zGL λv hv=>(nodup_cons.mp nd).1 (of_mem_zip hv).1,if_pos hk];simp
 | p::P,w::vs,i+1,m,nd,h1,h2,hk=>by
  show bindL kindOf ((p,w)::P.zip vs) m x=_;unfold bindL;exact zGM (i:=i) (nodup_cons.mp nd).2 (by simpa using h1) (by simpa using h2) hk
theorem zGO {kindOf:Str->Option NameKind}:∀ {P:List Str} {vs:List Value} {i:Nat} {m:Str->Option Value},P.Nodup->P[i]?=some x->vs[i]?=some v->kindOf x≠some .local ->
  bindC kindOf (P.zip vs) m x=some v
 | [],_,_,_,_,h,_,_=>by simp at h
 | _::_,[],_,_,_,_,h,_=>by simp at h
 | p::P,w::vs,0,m,nd,h1,h2,hk=>by
  simp at h1 h2;subst h1;subst h2;show bindC kindOf ((p,w)::P.zip vs) m p=_;unfold bindC;rw[zGN λv hv=>(nodup_cons.mp nd).1 (of_mem_zip hv).1,if_neg hk];simp
 | p::P,w::vs,i+1,m,nd,h1,h2,hk=>by
  show bindC kindOf ((p,w)::P.zip vs) m x=_;unfold bindC;exact zGO (i:=i) (nodup_cons.mp nd).2 (by simpa using h1) (by simpa using h2) hk
noncomputable def zB8 (N:List Str)(vs:List V):St:=vs.map some++List.replicate (N.length - vs.length) none
noncomputable def cxOf (CX:CXT)(P:Program)(w:World)(K:W.Frag)(mg:Str->Option Value)(base:Heap)(N:List Str)(qual:Str)(scope:Scope)(f:Addr)(cd:Value)(A:Around)(outer:List Env)(s:Shared)(H:Hp)(E:XK):Cx where
 prog:=P
 w:=w
 K:=K
 mg:=mg
 base:=base
 A:=A.deeper (envOfC qual scope s.heap.objs.size f cd)
 N:=N
 s0:=s
 Y5:=H
 env:=envOfC qual scope s.heap.objs.size f cd
 outer:=outer
 stack:=envOfC qual scope s.heap.objs.size f cd::outer
 ex:=[]
 calm:=true
 fn:=λ_=>true
 pn:=[]
 xe:=λe s'=>wpAny (model P w) (A.deeper (envOfC qual scope s.heap.objs.size f cd)) (leaving (envOfC qual scope s.heap.objs.size f cd) e) (λ_ s''=>CX outer H s E e s'') (λe' s''=>CX outer H s E e' s'') s'
theorem zHl {sc:Scope}(h:sc.names.lookup x=some .cell):∃ c,(cellsFrom n sc.names []).lookup x=some c:=Option.isSome_iff_exists.mp (W.cellsFrom_some sc.names n [] (.inl h))
theorem zF6 {K:W.Frag}
  (S:zAV N ps scope) (I:A.handled=none) (B:A.depth+1+Builtin.pylongFrames < recursionLimit) (a:Env0 P w K mg base A outer s H) (L:vs.length=ps.length) (r:Vals vs us)
  (x:InCallC s s.heap.objs.size (bindL (envOfC qual scope s.heap.objs.size f cd).kindOf (ps.zip us) λ_=>none) (cellsFrom (s.heap.objs.size+1) scope.names []) (bindC (envOfC qual scope s.heap.objs.size f cd).kindOf (ps.zip us) λ_=>none) s1) :
  Inv (cxOf CX P w K mg base N qual scope f cd A outer s H E) [] (zB8 N vs) H s1:=by
 have F:ps.length<=N.length:=by have:=congrArg List.length S.pre;rw[length_take] at this;omega
 obtain⟨o,O,rfl,C⟩:=x.done;have g:∀ b:Addr,b∉(cxOf CX P w K mg base N qual scope f cd A outer s H E).ex:=λb z=>absurd (show b∈([]:List Addr) from z) (by simp)
 refine⟨⟨a.mod,S.kind,rfl,rfl,le_refl _,λy z c o d=>?_,λy j=>?_,λy c _ h=>?_,λ_=>I,Around.frames_deeper a.frames,.inr ⟨rfl,rfl⟩,λb z=>absurd z (g b),a.bs,a.bsz,λb _ _=>g b,λb z=>absurd z (g b),a.funs,a.frf,⟨B,a.tree,_,_,rfl,S.gen,S.co,rfl,rfl⟩,a.tabs⟩,
  rfl,a.bare,Un.kept C,⟨_,x.toInCall.ns,λi y v o d M=>?_⟩,λy c h=>⟨_,x.cell y c h⟩,a.hok.fresh (le_refl _),λy c h=>?_,λp m=>absurd (show p∈([]:List (Addr×Obj)) from m) (by simp),a.hok.kept C,?_⟩
 .exact name_of_addr x.apart (PySem.mem_of_lookup o) (PySem.mem_of_lookup d)
 .have j:=j;rcases j with j | j
  .exact zHl j
  .exact absurd rfl (S.nofree _ (PySem.mem_of_lookup j))
 .exact Nat.le_of_lt (x.above y c (PySem.mem_of_lookup h))
 .have t:i < vs.length:=by
   unfold zB8 at d;by_cases t:i < vs.length
   .exact t
   .rw [getElem?_append_right (by simpa using t)] at d;rw[getElem?_replicate] at d;split at d<;>cases d
  have G:vs[i]?=some v:=by
   unfold zB8 at d;rw[getElem?_append_left (by simpa using t),getElem?_map] at d
   simp_all
  obtain⟨u,D,J⟩:=r.get G;have m:ps[i]?=some y:=by
   rw[<- S.pre,List.getElem?_take_of_lt (by omega)];exact o
  have l:ps.Nodup:=by rw[<- S.pre];exact S.nd.sublist (List.take_sublist _ _)
  refine⟨u,J,?_⟩;rcases S.par y (mem_of_getElem? m) with k | k
  .exact .inl ⟨k,zGM l m D k⟩
  .obtain ⟨c,e⟩:=zHl (n:=s.heap.objs.size+1) k;refine .inr ⟨.inl k,c,e,?_⟩;have q:=x.cell y c e;rw[zGO l m D (by show scope.names.lookup y≠_;rw[k];decide)] at q;exact q
 .exact a.hok.fresh (Nat.le_of_lt (x.above y c (PySem.mem_of_lookup h)))
 .unfold zB8;show _=N.length;rw[qj,List.length_map,length_replicate];omega
theorem zML {K:W.Frag}{kV:Value}
     (R:K.lookup f=some ⟨oc,od,.func (W.fnOf name qual params body scope dV kV doc pm an cdv ct),osl⟩) (p:W.codeIn K cdv qual=true) (S:zAV N ps scope)
  (len:∀ vs H Q E,sp vs H Q E->vs.length=ps.length)
  (a:∀ (A:Around) (outer:List Env) (s:Shared) (H:Hp) (vs:List V) (Q:VK) (E:XK),Room k (A.deeper (envOfC qual scope s.heap.objs.size f cdv))->sp vs H Q E ->
   ∃ t,PSs (cxOf CX P w K mg base N qual scope f cdv A outer s H E) body t/\t { nx:=λ_ H'=>Q .non H',rt:=Q } (zB8 N vs) H) :
  FnOk P w K mg base CX (k+1) f (W.fnOf name qual params body scope dV kV doc pm an cdv ct) ps sp:=by
 refine⟨len,λA outer s H C us vs Q E j i T r g=>?_⟩;have O:=len _ _ _ _ g;have G:K.In s.heap:=i.mod.kin.keeps λb o e=>(i.bs b o e).1
 have m:s.heap.NoLimit:=i.mod.nolimit.keeps λb o e=>(i.bs b o e).1
 have c:∀ y∈ps.zip us,scope.names.lookup y.1=some .local\/(scope.names.lookup y.1=some .cell/\((cellsFrom (s.heap.objs.size+1) scope.names []).lookup y.1).isSome=true):=λzz34 U=>by
  obtain⟨n,v⟩:=zz34;rcases S.par n (of_mem_zip U).1 with q | q
  .exact .inl q
  .exact .inr ⟨q,W.cellsFrom_some _ _ _ (.inl q)⟩
 refine codeAny_call_function j.depth (G _ _ R) rfl S.co S.gen rfl (W.codeRec_of G p) (T _ _ _ _ ?_);refine wpAny_newFunctionEnv_cells S.kind c λenv L F x=>?_
 subst L;refine⟨m.keeps x.toInCall.keep,codeAny_func ?_⟩;obtain⟨t,X,M⟩:=a A outer s H vs Q E (j.deeper _) g;have I:Inv (cxOf CX P w K mg base N qual scope f cdv A outer s H E) [] (zB8 N vs) H F:=zF6 S j.hd (by have:=j.dp;show A.depth+1+100 < _;omega) i O r x;refine wpAny_mono (X [] F (zB8 N vs) H _ I M) (λfl z d=>?_) λe z d=>d
 have h:∀ {l:St} {H':Hp} {v:V} {u:Value},Inv (cxOf CX P w K mg base N qual scope f cdv A outer s H E) [] l H' z->RelV v u->Q v H'->CE outer P w H s Q u z :=
  λ{l H' v u} J B q=>⟨v,H',J.os,J.bare,J.base,J.hok,B,q⟩
 cases fl with
 | ret u =>
  obtain⟨v,l,H',J,B,q⟩:=d;exact h J B q
 | next =>
  obtain⟨l,H',J,q⟩:=d;exact h (v:=V.non) (u:=Value.none) J rfl q
 | brk =>
  obtain⟨_,_,_,q⟩:=d;exact False.elim q
 | cont =>
  obtain⟨_,_,_,q⟩:=d;exact False.elim q
section
variable {X:Cx}{x:Str}{p pos:Pos}{e:Expr}{es:List Expr}{t:TA}{id T:String}{r:List V->Hp->VK->Prop}
def tCB (r:List V->Hp->VK->Prop)(t:TA):TE:=fun σ H Q=>t σ H λvs H1=>r vs H1 Q
theorem zC0 (i:zCi X (.builtin id) r)(f:Gl X x)(k:X.mg x=none)(m:bootBuiltins x=some (.builtin id))(l:PA X (e::es) t)(q:x ≠ "__name__":=by decide)(c:(x==("__debug__":Str))=false:=by decide)
  (v:starEach (e::es) X.env=(false,eval e X.env)::starEach es X.env:=by rfl) (d:(backTo pos (starEach es X.env)).any (·.1)=false:=by rfl):PE X (.Call (.Name x p) (e::es) [] pos) (tCB r t):=by
 intro a s σ H Q I h;refine wpAny_Call_Name_kw (zCa I f k m ?_ q c);exact PyProof.Rows.callWith_builtin1 (thn (l pos a s σ H _ I h) λus g b=>by obtain⟨j,n,o,r1,u⟩:=b;exact i a g σ n j us Q o r1 u) v d
theorem zFl (i:zCi X (.type T) r)(g:Gl X x)(k:X.mg x=none)(u:bootBuiltins x=some (.type T))(q:PA X (e::es) t)(m:x ≠ "__name__":=by decide)(d:(x==("__debug__":Str))=false:=by decide)
  (f:starEach (e::es) X.env=(false,eval e X.env)::starEach es X.env:=by rfl) (c:(backTo pos (starEach es X.env)).any (·.1)=false:=by rfl):PE X (.Call (.Name x p) (e::es) [] pos) (tCB r t):=by
 intro a s σ H Q I h;refine wpAny_Call_Name_kw (zCa I g k u ?_ m d);exact PyProof.Rows.callWith_type1 (thn (q pos a s σ H _ I h) λus v b=>by obtain⟨o,j,l,r1,n⟩:=b;exact i a v σ j o us Q l r1 n) f c
end
end L2
namespace HT
open PySem PyProof.Rows
section
open PySem.SeqAt
open PySem.AutoSeq1 (wpAny_loadPart')
open PySem.MeetsSeq PySem.MeetsSeq2 PySem.MeetsSeq3
end
section
variable {prog:Program}{w:World}{A:Around}{E:Value->Shared->Prop}{s:Shared}
theorem zPr (j:IsTup s.heap t vs.toArray)(i:IsTup s.heap b ws.toArray)(f:vs≠[])
  (h:ws=[]->Q (.ref t) s) (k:ws≠[]->Q (.ref s.heap.objs.size) { s with heap:=s.heap.push { cls:=.type "tuple",data:=.seq (vs++ws).toArray } })
  (hsz:vs.length+ws.length<=sizeLine):wpAny (model prog w) A (binaryOp .Add (.ref t) (.ref b)) Q E s:=by
 obtain⟨⟨cls,g,data,sl⟩,ho,hc,n,hd⟩:=id j;obtain⟨⟨e,a,d,c⟩,ho2,hc2,n2,hd2⟩:=id i
 simp_all
 by_cases hw:ws=[]
 .exact concat_meets ⟨_,ho,rfl⟩ ⟨_,ho2,rfl⟩ noFill_tuple_add seq_tuple_add PySem.F.slot_tuple_add PySem.F.entry_tuple_add (PySem.F.args_tuple_add_2 _ _)
   (tuple_addW1 t b vs.toArray ws.toArray n n2 g a sl c (by simpa using f) (by simp[hw])) ⟨ho,ho2,h hw⟩
 .refine concat_meets ⟨_,ho,rfl⟩ ⟨_,ho2,rfl⟩ noFill_tuple_add seq_tuple_add PySem.F.slot_tuple_add PySem.F.entry_tuple_add (PySem.F.args_tuple_add_2 _ _)
   (tuple_addW2 t b vs.toArray ws.toArray n n2 g a sl c (by simpa using f) (by simpa using hw) (by omega)) ⟨ho,ho2,?_⟩
  simp_all
noncomputable def sIx (n d:Nat):Option Int->Nat
 | none=>d
 | some v=>if v < 0 then (v+(n:Int)).toNat else min v.toNat n
theorem zQL (n d:Nat)(a:d<=n)(o:Option Int):sIx n d o<=n:=by
 cases o with
 | none=>exact a
 | some v =>
  show (if v < 0 then (v+_).toNat else min v.toNat n)<=n;grind
theorem zKp (v:Int)(n d:Nat):(if v < 0 then max (v+(n:Int)) 0 else min v (n:Int))=((sIx n d (some v):Nat):Int):=by
 show _=((if v < 0 then (v+_).toNat else min v.toNat n:Nat):Int);grind
theorem zIW (b a:Option Int)(n:Nat):Builtin.Slice.sliceAdjust b a 1 (n:Int)=(((sIx n 0 b:Nat):Int),((sIx n n a:Nat):Int)):=by
 refine Prod.ext ?_ ?_
 .cases b with
  | none=>rfl
  | some v=>exact zKp v n 0
 .cases a with
  | none=>rfl
  | some v=>exact zKp v n n
theorem zH1 (i j:Nat):Builtin.Slice.slicePlaces (i:Int) (j:Int) 1=j - i:=by
 unfold Builtin.Slice.slicePlaces;grind
theorem zEW (p:IsPart v o)(h:Q o s):wpAny (model prog w) A (Builtin.Slice.slicePartIndex v) Q E s:=by
 cases p with
 | none=>exact slicePart_none h
 | int i t=>exact slicePart_int h
theorem zDX {c d:Option Int}{n:Nat}{Q:Int×Int×Nat->Shared->Prop}(g:s.heap.IsSliceOf sl vl vu .none)(pl:IsPart vl c)(e:IsPart vu d)
  (h:Q (((sIx n 0 c:Nat):Int),1,sIx n n d - sIx n 0 c) s):wpAny (model prog w) A (Builtin.Slice.sliceApplied (.ref sl) (pure (n:Int))) Q E s:=by
 obtain⟨i,a,f,b⟩:=id g;refine qQ (qQ (wpAny_field a b (x:=vl) rfl (qQ (wpAny_field a b (x:=vu) rfl (qQ (wpAny_field a b rfl (xj ?_)))))));refine qQ (slicePart_none ?_);refine qQ (zEW pl (qQ (zEW e (qQ (xj ?_)))));simp;rw[zIW c d n];simp;rw[zH1];exact xj h
theorem zLT (xs:Array Value)(i k:Nat):((List.range k).filterMap λ(m:Nat)=>xs[((i:Int)+(m:Int)*1).toNat]?).toArray=((xs.toList.drop i).take k).toArray:=by
 have e:(λ(m:Nat)=>xs[((i:Int)+(m:Int)*1).toNat]?)=λm=>xs[i+m]?:=by
  funext m;have:((i:Int)+(m:Int)*1).toNat=i+m:=by omega
  rw[this]
 rw[e];have:=pick_run xs i k
 simp_all
 assumption
theorem zDJ {b:Option Int}(c:IsTup s.heap t items)(i:s.heap.IsSliceOf sl vl vu .none)(pl:IsPart vl b)(l:IsPart vu hi)
  (o:¬ (sIx items.size 0 b=0/\sIx items.size items.size hi=items.size))
  (h:Q (.ref s.heap.objs.size) { s with heap:=s.heap.push { cls:=.type "tuple",data:=.seq ((items.toList.drop (sIx items.size 0 b)).take (sIx items.size items.size hi - sIx items.size 0 b)).toArray } })
  (hsz:items.size<=sizeLine):wpAny (model prog w) A (getItem (.ref t) (.ref sl)) Q E s:=by
 have a:sizeOk (.seq ((items.toList.drop (sIx items.size 0 b)).take (sIx items.size items.size hi - sIx items.size 0 b)).toArray):=by
  show ((items.toList.drop (sIx items.size 0 b)).take (sIx items.size items.size hi - sIx items.size 0 b)).toArray.size<=sizeLine;rw[xX,length_take,List.length_drop,Array.length_toList];omega
 have n:sIx items.size items.size hi<=items.size:=zQL _ _ (le_refl _) hi;obtain⟨j,f,g,k⟩:=id i;have e:s.TypeIs (.ref sl) "slice":=⟨j,f,g⟩;unfold getItem
 try with_reducible refine wpAny_holding ?_
 first | refine qQ (xj ?_) | skip
 refine qQ (wpAny_sequenceKey c.typeIs (by decide) ?_);refine qQ (wpAny_callSpecial?_slot (name:=Str.ofString "__getitem__") c.typeIs PyProof.Rows.slot_tuple_getitem
  (wpAny_call_entry PyProof.Rows.slot_tuple_getitem c.typeIs entry_tuple_getitem ?_ (args_tuple_getitem _ _)))
 show wpAny _ _ (Builtin.Tuple.tupleItemsOf (.ref t)>>=_) _ _ s;refine qQ (tupleItemsOf_ c ?_);refine qQ (wpAny_typeOf e ?_);rw[if_pos (by decide)];refine qQ (zDX i pl l ?_);have d:¬ ((((sIx items.size 0 b:Nat):Int)==0&&(1:Int)==1&&(sIx items.size items.size hi - sIx items.size 0 b)==items.size)=true):=by
  grind
 show wpAny _ _ (if _=true then _ else _) _ _ s;rw[if_neg d,zLT]
 first
  | exact qQ (m:=Builtin.Tuple.tupleExact _) (wpAny_newObj_type (xj ⟨_,rfl,xj h⟩) a)
  | exact qQ (m:=Builtin.Tuple.tupleExact _) (wpAny_newObj_type (qQ (xj (xj ⟨_,rfl,xj h⟩))) a)
  | exact qQ (qQ (m:=Builtin.Tuple.tupleExact _) (wpAny_newObj_type (xj (xj ⟨_,rfl,xj h⟩)) a))
  | exact qQ (qQ (m:=Builtin.Tuple.tupleExact _) (wpAny_newObj_type (xj ⟨_,rfl,xj h⟩) a))
end
end HT
namespace L2
open PySem Spec PyProof.Rows
abbrev TO:=St->Hp->(Option Int->Hp->Prop)->Prop
def PO (X:Cx)(e:Option Expr)(t:TO):Prop :=
 ∀ (pins:List (Addr×Obj)) (s:Shared) (σ:St) (H:Hp) (Q:Option Int->Hp->Prop),Inv X pins σ H s->t σ H Q ->
  wpAny (model X.prog X.w) X.A (evalPart e X.env) (λu s'=>∃ o H',Inv X pins σ H' s'/\IsPart u o/\Q o H') X.xe s
def zNy:TO:=λ_ H Q=>Q none H
def zSc (t:TE):TO:=fun σ H Q=>t σ H λx H1=>∃ i,x=.int i/\Q (some i) H1
section
variable {X:Cx}{e:Expr}{te:TE}{lo hi:Option Expr}{tl th:TO}{pos p2:Pos}
theorem zOG (h:PE X e te):PO X (some e) (zSc te):=by
 intro b s σ H Q I g;rw[evalPart_some];refine thn (h b s σ H _ I g) λu j a=>?_
 obtain⟨x,d,f,r1,c⟩:=a;obtain⟨i,rfl,q⟩:=c;obtain⟨t,rfl⟩:=r1;exact⟨some i,d,f,.int i t,q⟩
def SlR (X:Cx)(r:V->Option Int->Option Int->Hp->VK->Prop):Prop :=
 ∀ (pins:List (Addr×Obj)) (s:Shared) (σ:St) (H:Hp) (x:V) (v vl vu:Value) (lo hi:Option Int) (sl:Addr) (Q:VK),Inv X pins σ H s->RelV x v->s.heap.IsSliceOf sl vl vu .none->IsPart vl lo->IsPart vu hi->r x lo hi H Q ->
  ∃ T id,typeLookup (.type T) "__getitem__"=pure (some (.builtin id))/\s.TypeIs v T/\wpAny (model X.prog X.w) X.A (getItem v (.ref sl)) (EP X pins σ Q) X.xe s
theorem SlR.or (h:SlR X r)(h':SlR X r'):SlR X (λx lo hi H Q=>r x lo hi H Q\/r' x lo hi H Q):=by
 intro a s σ H x v f c lo hi sl Q I d e g b q;rcases q with q | q
 .exact h a s σ H x v f c lo hi sl Q I d e g b q
 .exact h' a s σ H x v f c lo hi sl Q I d e g b q
def tSl (r:V->Option Int->Option Int->Hp->VK->Prop)(te:TE)(tl th:TO):TE:=fun σ H Q=>te σ H λx H1=>tl σ H1 λl H2=>th σ H2 λu H3=>r x l u H3 Q
theorem zLU (w:SlR X r)(o:PE X e te)(m:PO X lo tl)(n:PO X hi th):PE X (.Subscript e (.Slice lo hi none p2) pos) (tSl r te tl th):=by
 intro a s σ H Q I h;refine Subscript_ (thn (o a s σ H _ I h) λv p d=>?_);obtain⟨x,B,k,r1,D⟩:=d;refine wpAny_Slice (thn (m a p σ B _ k D) λvl A ⟨l,J,z,E,j⟩=>thn (n a A σ J _ z j) λvu b c=>?_);obtain⟨u,i,L,K,F⟩:=c;rw[evalPart_none];refine xj ?_;have C:Inv X a σ i { b with heap:=b.heap.push { cls:=.type "slice",data:=.fields #[vl,vu,.none] } }:=L.kept (t':=b.toks) λb ob q=>get?_push_of_some _ q
 obtain⟨T,M,t,y,G⟩:=w a { b with heap:=b.heap.push { cls:=.type "slice",data:=.fields #[vl,vu,.none] } } σ i x v vl vu l u b.heap.objs.size Q C r1 (Heap.IsSliceOf.new ..) E K F;show wpAny (model X.prog X.w) X.A (subscriptTail e (.Slice lo hi none p2) v (.ref b.heap.objs.size)) (EP X a σ Q) X.xe { b with heap:=b.heap.push { cls:=.type "slice",data:=.fields #[vl,vu,.none] } };exact tail_any (ops:=[.ref b.heap.objs.size,v]) y t G (by with_unfolding_all rfl)
noncomputable def cutV (xs:List V)(lo hi:Option Int):List V:=(xs.drop (HT.sIx xs.length 0 lo)).take (HT.sIx xs.length xs.length hi - HT.sIx xs.length 0 lo)
theorem zEF (xs:List V)(a b:Option Int):(cutV xs a b).length<=xs.length:=by
 unfold cutV;simp;omega
def rSlT (K:W.Frag):V->Option Int->Option Int->Hp->VK->Prop:=λx lo hi H Q=>∃ a xs,x=.ref a/\SqT K H a xs /\
 ¬ (HT.sIx xs.length 0 lo=0/\HT.sIx xs.length xs.length hi=xs.length)/\∀ p,H p=none->Q (.ref p) (upd H p (.tup (cutV xs lo hi)))
theorem zQJ:SlR X (rSlT X.K):=by
 intro d s σ H x v u t k i sl Q I m n o j h;obtain⟨a,f,rfl,g,p,q⟩:=h;cases m;obtain⟨c,r,e,l⟩:=I.tuple g;have b:c.toArray.size=f.length:=by rw[xX];exact r.length.symm
 refine⟨"tuple",_,PyProof.Rows.slot_tuple_getitem.lookup,e.typeIs,?_⟩;refine HT.zDJ e n o j (by grind) ?_ (by simp_all);rw[b];refine⟨.ref s.heap.objs.size,_,I.laid (λb ob q=>get?_push_of_some _ q) (le_refl _) ?_,rfl,q _ (I.hok.fresh (le_refl _))⟩;exact⟨le_trans (zEF f k i) l,_,(r.drop _).take _,IsTup.new _ _⟩
def zQS (K:W.Frag):R2:=λx y H Q=>∃ a b xs ys,x=.ref a/\y=.ref b/\SqT K H a xs/\SqT K H b ys/\xs≠[]/\xs.length+ys.length<=sizeLine /\
 (ys=[]->Q (.ref a) H)/\(ys≠[]->∀ p,H p=none->Q (.ref p) (upd H p (.tup (xs++ys))))
theorem Vals.nil_iff (r:Vals xs us):us=[]<->xs=[]:=by
 cases r with
 | nil=>simp
 | cons _ _=>simp
end
end L2
namespace L2
open PySem Spec PyProof.Rows
noncomputable def ixN (n:Nat)(i:Int):Option Nat:=if 0<=i then (if i < n then some i.toNat else none) else if -(n:Int)<=i then some (i+n).toNat else none
noncomputable def atI {O:Type}(xs:List O)(i:Int):Option O:=(ixN xs.length i).bind λj=>xs[j]?
theorem zJn (h:ixN n i=some j):seqIndex? i n=some j/\j < n/\-(n:Int)<=i/\i < n:=by
 unfold ixN at h;by_cases h0:0<=i
 .rw [if_pos h0] at h;by_cases h1:i < n
  .rw [if_pos h1] at h;have e:i.toNat=j:=xY h;exact⟨by rw[seqIndex_of h0 h1,e],by omega,by omega,h1⟩
  .simp_all
 .rw [if_neg h0] at h;by_cases h1:-(n:Int)<=i
  .rw [if_pos h1] at h;have e:(i+n).toNat=j:=xY h;exact⟨by rw[seqIndex_neg (by omega) h1,e],by omega,h1,by omega⟩
  .simp_all
theorem zK0 {O:Type}{xs:List O}{i:Int}{v:O}(h:atI xs i=some v):∃ j,seqIndex? i xs.length=some j/\xs[j]?=some v/\j < xs.length/\-(xs.length:Int)<=i/\i < xs.length:=by
 unfold atI at h;cases e:ixN xs.length i with
 | none=>rw[e] at h;cases h
 | some j =>
  simp_all
  obtain⟨d,b,c,a⟩:=zJn e;exact⟨j,d,h,b,c,a⟩
theorem zCQ {O:Type}{xs:List O}{j:Nat}{v:O}(h:xs[j]?=some v):atI xs (j:Int)=some v:=by
 have a:=(zzg h).1;have e:ixN xs.length j=some j:=by
  unfold ixN
  simp_all
 unfold atI;rw[e];exact h
def zFW (b:Expr):Prop:=∀ o i,subscripted b false o i=operate [o,i] (getItem o i)
def IxR (X:Cx)(r:R2):Prop :=
 ∀ (value slice:Expr) (pins:List (Addr×Obj)) (s:Shared) (σ:St) (H:Hp) (x y:V) (v u:Value) (Q:VK),Inv X pins σ H s->RelV x v->RelV y u->r x y H Q ->
  subscripted slice false v u=operate [v,u] (getItem v u)->wpAny (model X.prog X.w) X.A (subscriptTail value slice v u) (EP X pins σ Q) X.xe s
def MtR (X:Cx)(id:String)(r:V->List V->Hp->VK->Prop):Prop :=
 ∀ (pins:List (Addr×Obj)) (s:Shared) (σ:St) (H:Hp) (x:V) (xs:List V) (v:Value) (us:List Value) (Q:VK),Inv X pins σ H s->RelV x v->Vals xs us->r x xs H Q ->
  wpAny (model X.prog X.w) X.A (call (.builtin id) (v::us)) (EP X pins σ Q) X.xe s
section
variable {X:Cx}{a b:Expr}{ta tb:TE}{pos:Pos}
theorem IxR.or (h:IxR X r)(h':IxR X r'):IxR X (λx y H Q=>r x y H Q\/r' x y H Q):=by
 intro b a c s σ H x y v u Q I e f q d;rcases q with q | q
 .exact h b a c s σ H x y v u Q I e f q d
 .exact h' b a c s σ H x y v u Q I e f q d
theorem MtR.or {b:String}(h:MtR X b r)(h':MtR X b r'):MtR X b (λx xs H Q=>r x xs H Q\/r' x xs H Q):=by
 intro a s σ H x xs v us Q I c d q;rcases q with q | q
 .exact h a s σ H x xs v us Q I c d q
 .exact h' a s σ H x xs v us Q I c d q
theorem zQd (d:IxR X r)(e:PE X a ta)(i:PE X b tb)(m:zFW b):PE X (.Subscript a b pos) (tOp r ta tb):=by
 intro c s σ H Q I h;exact Subscript_ (binT e i I h λv u k x y j l g f q=>d a b c k σ j x y v u Q l g f q (m _ _))
def rIxL (K:W.Frag):R2:=λx y H Q=>∃ p xs i v,x=.ref p/\y=.int i/\SqL K H p xs/\atI xs i=some v/\Q v H
def rIxT (K:W.Frag):R2:=λx y H Q=>∃ p xs i v,x=.ref p/\y=.int i/\SqT K H p xs/\atI xs i=some v/\Q v H
theorem zJm:IxR X (rIxL X.K):=by
 intro l g a s σ H x y v u Q I A o h n;obtain⟨p,G,i,z,rfl,rfl,D,C,q⟩:=h;cases A;obtain⟨t,rfl⟩:=o;obtain⟨c,r,f,J⟩:=I.list D;obtain⟨j,d,F,M,E,B⟩:=zK0 C;obtain⟨w,m,k⟩:=r.get F;have K:=r.length;have L:=zHQ;have b:EP X a σ Q w s:=⟨z,H,I,k,q⟩;by_cases h0:0<=i
 .have e:i.toNat=j:=by
   rw[seqIndex_of h0 B] at d;exact xY d
  exact item_listR f.isList h0 (by omega) (by rw[e];simpa using m) b n
 .have e:(i+(c.toArray.size:Int)).toNat=j:=by
   rw[seqIndex_neg (by omega) E] at d
   simp_all
  exact subscriptTail_builtinR (x:=w) f.isList.typeIs slot_list_getitem.lookup
   (wpAny_getItem_list_neg f.isList (by omega) (by rw[xX]<;>omega) (by omega) (by rw[e];simpa using m) ⟨rfl,b⟩) n
theorem zC3:IxR X (rIxT X.K):=by
 intro c a e s σ H x y v u Q I k m h g;obtain⟨p,D,i,z,rfl,rfl,l,A,q⟩:=h;cases k;obtain⟨t,rfl⟩:=m;obtain⟨n,r,d,E⟩:=I.tuple l;obtain⟨j,C,f,B,G,F⟩:=zK0 A;obtain⟨w,o,b⟩:=r.get f;have J:=r.length;have K:=zHQ;exact subscriptTail_builtinR d.typeIs slot_tuple_getitem.lookup
  (getItem_tuple (j:=j) d (by omega) (by omega) (by simp_all) (by simpa using o) ⟨rfl,(⟨z,H,I,b,q⟩)⟩) g
theorem zIC (a:List Value)(n j:Nat)(u:Value):Obj.mapSeq (·.setIfInBounds j u) { cls:=.type "list",data:=.seq a.toArray n }={ cls:=.type "list",data:=.seq (a.set j u).toArray n }:=by
 simp[Obj.mapSeq]
theorem Inv.lst {σ:St}(I:Inv X pins σ H s)(h:H p=some (.lst xs)) :
  ∃ (a:List Value) (n:Nat),Vals xs a/\s.heap.get? p=some { cls:=.type "list",data:=.seq a.toArray n }/\xs.length<=sizeLine:=by
 obtain⟨z,a,n,r,e⟩:=I.hok p _ h;exact⟨a,n,r,e,z⟩
theorem Inv.lstUpd {σ:St}{a:List Value}(I:Inv X pins σ H s)(h:H p=some (.lst xs))
  (c:s.heap.get? p=some { cls:=.type "list",data:=.seq a.toArray n }) (b:f { cls:=.type "list",data:=.seq a.toArray n }={ cls:=.type "list",data:=.seq its'.toArray n' }) (r:Vals ys its') (hz:ys.length<=sizeLine) (t:Nat) :
  Inv X pins σ (upd H p (.lst ys)) { s with heap:=s.heap.update p f,toks:=t }:=by
 have e:(s.heap.update p f).get? p=some { cls:=.type "list",data:=.seq its'.toArray n' }:=by
  rw[Heap.get?_update_self f c (by rw[b]<;>rfl),b]
 refine I.write (by rw[h];trivial) (.inl rfl) (λb u d q=>(Heap.get?_update_other _ _ (Ne.symm d)).trans q) ⟨_,e⟩ ?_;exact⟨hz,its',n',r,e⟩
def zSj:V->V->V->Hp->(Hp->Prop)->Prop:=λo i v H Q=>∃ p xs k j,o=.ref p/\i=.int k/\H p=some (.lst xs)/\ixN xs.length k=some j/\Q (upd H p (.lst (xs.set j v)))
theorem zLK:PSet X zSj:=by
 intro e s σ H o i v C B u Q I y z l h;obtain⟨p,F,k,j,rfl,rfl,g,w,q⟩:=h;cases y;obtain⟨t,rfl⟩:=z;obtain⟨a,n,r,c,A⟩:=I.lst g;obtain⟨b,E,x,m⟩:=zJn w;have G:=r.length;have D:=zHQ;have f :=
  I.lstUpd g c (zIC a n j u) (r.set l j) (by rw[length_set];exact A) s.toks
 by_cases h0:0<=k
 .have d:k.toNat=j:=by
   rw[seqIndex_of h0 m] at b;exact xY b
  exact W.ki_setAt c h0 (by omega) (by simp_all) (by rw[d];exact⟨_,f,q⟩)
 .have d:(k+(a.toArray.size:Int)).toNat=j:=by
   rw[seqIndex_neg (by omega) x] at b;grind
  exact W.ki_setBack c (by omega) (by simp_all) (by omega) (by rw[d];exact⟨_,f,q⟩)
theorem zFg (b a:Option Int)(n:Nat):(sliceBounds b a none n).1=((HT.sIx n 0 b:Nat):Int)/\(sliceBounds b a none n).2.1=((HT.sIx n n a:Nat):Int)/\(sliceBounds b a none n).2.2=1:=by
 refine⟨?_,?_,rfl⟩
 .cases b with
  | none=>simp[sliceBounds,HT.sIx]
  | some i =>
   simp only[sliceBounds,HT.sIx,Option.getD_none,show (1:Int)>0 by decide,if_true];by_cases h:i < 0
   .simp only [h,if_true]<;>omega
   .simp only [h,if_false]<;>omega
 .cases a with
  | none=>simp[sliceBounds,HT.sIx]
  | some i =>
   simp only[sliceBounds,HT.sIx,Option.getD_none,show (1:Int)>0 by decide,if_true];by_cases h:i < 0
   .simp only [h,if_true]<;>omega
   .simp only [h,if_false]<;>omega
theorem zEv (a:List Value)(b c:Option Int):slicePick a.toArray b c none=((a.drop (HT.sIx a.length 0 b)).take (HT.sIx a.length a.length c - HT.sIx a.length 0 b)).toArray:=by
 obtain⟨f,e,d⟩:=zFg b c a.toArray.size;unfold slicePick;rw[f,e,d];simp only[sliceRange_one,pick_run]<;>rfl
def rSlL (K:W.Frag):V->Option Int->Option Int->Hp->VK->Prop:=λx lo hi H Q=>∃ a xs,x=.ref a/\SqL K H a xs/\∀ p,H p=none->Q (.ref p) (upd H p (.lst (cutV xs lo hi)))
theorem zN2:SlR X (rSlL X.K):=by
 intro c s σ H x v t p i f sl Q I l m n g h;obtain⟨a,j,rfl,e,q⟩:=h;cases l;obtain⟨o,r,d,k⟩:=I.list e;have b:=r.length;refine⟨"list",_,slot_list_getitem.lookup,d.isList.typeIs,?_⟩;refine wpAny_getItem_list_slice d.isList m n g .none (by simp) ?_ (by grind);rw[zEv,<- b];refine⟨.ref s.heap.objs.size,_,I.laid (λb ob q=>get?_push_of_some _ q) (le_refl _) ?_,rfl,q _ (I.hok.fresh (le_refl _))⟩;exact⟨le_trans (zEF j i f) k,_,0,(r.drop _).take _,get?_push_size _ rfl⟩
theorem zDV:zCi X (.builtin "len") (λxs H Q=>∃ p ys,xs=[.ref p]/\(SqL X.K H p ys\/SqT X.K H p ys)/\Q (.int ys.length) H):=by
 intro f s σ H xs us Q I r h;obtain⟨p,ys,rfl,b,q⟩:=h;obtain⟨u,rfl,i⟩:=zFa r;cases i;have j:=zHQ;rcases b with b | b
 .obtain ⟨d,e,c,g⟩:=I.list b;have a:=e.length;exact Calls.call_len_list c.isList (by simp only[xX]<;>omega) ⟨.int ys.length,H,I.tok _,⟨s.toks+1,by rw[xX,a]⟩,q⟩
 .obtain ⟨d,e,c,g⟩:=I.tuple b;have a:=e.length;exact len_tuple c (by simp only[xX]<;>omega) ⟨.int ys.length,H,I.tok _,⟨s.toks+1,by rw[xX,a]⟩,q⟩
theorem zCi.or (h:zCi X f r)(h':zCi X f r'):zCi X f (λxs H Q=>r xs H Q\/r' xs H Q):=by
 intro a s σ H xs us Q I b q;rcases q with q | q
 .exact h a s σ H xs us Q I b q
 .exact h' a s σ H xs us Q I b q
theorem zDU:zCi X (.type "list") (λxs H Q=>∃ p ys,xs=[.ref p]/\(SqL X.K H p ys\/SqT X.K H p ys)/\∀ l,H l=none->Q (.ref l) (upd H l (.lst ys))):=by
 intro i s σ H xs us Q I r h;obtain⟨p,ys,rfl,k,q⟩:=h;obtain⟨u,rfl,y⟩:=zFa r;cases y;have g:∀ (its:List Value),Vals ys its->ys.length<=sizeLine->∀ (h':Heap) (c:Nat),_ ->
   h'.get? s.heap.objs.size=some { cls:=.type "list",dict:=none,data:=.seq its.toArray c,slots:=#[] }->EP X i σ Q _ { s with heap:=h' }:=λits b m h' c j e =>
  ⟨.ref s.heap.objs.size,_,I.laid (t':=s.toks) j (le_refl _) (show zBV X.prog X.w _ h' _ (.lst ys) from ⟨m,its,c,b,e⟩),rfl,q _ (I.hok.fresh (le_refl _))⟩
 rcases k with k | k
 .obtain ⟨its,b,t,m⟩:=I.list k;have f:=b.length;obtain⟨o,w,x,n,v⟩:=t.isList;exact call_list_seq p (.inl rfl) w x v (λh' c j e=>g its b m h' c j e) (by simp_all)
 .obtain ⟨its,b,t,m⟩:=I.tuple k;have f:=b.length;obtain⟨o,w,x,n,v⟩:=t;exact call_list_seq p (.inr rfl) w x v (λh' c j e=>g its b m h' c j e) (by grind)
theorem zFQ:zCi X (.type "tuple") (λxs H Q=>∃ p ys,xs=[.ref p]/\((SqL X.K H p ys/\∀ l,H l=none->Q (.ref l) (upd H l (.tup ys)))\/(SqT X.K H p ys/\Q (.ref p) H))):=by
 intro i s σ H xs us Q I r h;obtain⟨p,ys,rfl,h⟩:=h;obtain⟨u,rfl,n⟩:=zFa r;cases n;rcases h with ⟨b,q⟩ | ⟨b,q⟩
 .obtain ⟨a,d,c,j⟩:=I.list b;have g:=d.length;refine call_tuple_list c.isList (λh' k=>?_) (by grind);have f:=I.kept (t':=s.toks) k;have m :=
   f.laid (t':=s.toks) (λb o e=>get?_push_of_some _ e) (le_refl _) (show zBV X.prog X.w _ _ _ (.tup ys) from ⟨j,a,d,IsTup.new _ _⟩)
  exact⟨.ref h'.objs.size,_,m,rfl,q _ (f.hok.fresh (le_refl _))⟩
 .obtain ⟨a,d,c,j⟩:=I.tuple b;exact call_tuple_same c ⟨.ref p,H,I,rfl,q⟩
def tyV (K:W.Frag)(T:String)(x:V)(H:Hp):Prop:=match x with
 | .str _=>T = "str"
 | .int _=>T = "int"
 | .ref p=>(T = "list"/\∃ xs,SqL K H p xs)\/(T = "tuple"/\∃ o,K.lookup p=some o/\o.cls=.type "tuple"/\o.dict=none) \/
   (T = "dict"/\((∃ kvs,H p=some (.dK kvs))\/∃ kvs,H p=some (.dT kvs)))\/(T = "set"/\∃ S n,H p=some (.set S n))
 | _=>False
theorem zP1 {σ:St}(I:Inv X pins σ H s)(r:RelV x v)(ty:tyV X.K T x H) :
  s.TypeIs v T/\∀ a,v=.ref a->∃ ob,s.heap.get? a=some ob/\ob.dict=none:=by
 cases x with
 | str z =>
  obtain⟨t,rfl⟩:=r;cases ty;exact⟨typeIs_str s z t,λ_ e=>nomatch e⟩
 | int i =>
  obtain⟨t,rfl⟩:=r;cases ty;exact⟨typeIs_int s i t,λ_ e=>nomatch e⟩
 | ref p =>
  cases r;rcases ty with ⟨rfl,m,l⟩ | ⟨rfl,o,b,hc,g⟩ | ⟨rfl,b⟩ | ⟨rfl,S,n,b⟩
  .obtain ⟨k,_,j,_⟩:=I.list l;refine⟨j.isList.typeIs,λa e=>?_⟩;cases e;obtain⟨o,n,e,c,g,_⟩:=j;exact⟨o,e,g⟩
  .refine ⟨⟨o,I.kIn p o b,hc⟩,λa e=>?_⟩;cases e;exact⟨o,I.kIn _ o b,g⟩
  .have z:∃ o,s.heap.get? p=some o/\o.ExactDict:=by
    rcases b with ⟨f,b⟩ | ⟨f,b⟩
    .obtain ⟨_,_,_,_,o,_,_,e,d,_⟩:=I.hok p _ b;exact⟨o,e,d⟩
    .obtain ⟨_,_,_,_,o,_,_,e,d,_⟩:=I.hok p _ b;exact⟨o,e,d⟩
   obtain⟨o,e,d⟩:=z;refine⟨⟨o,e,d.1⟩,λa h=>?_⟩;cases h;exact⟨o,e,d.2.1⟩
  .obtain ⟨o,_,_,_,e,d,_⟩:=I.hok p _ b;refine⟨⟨o,e,d.1⟩,λa h=>?_⟩;cases h;exact⟨o,e,d.2.1⟩
 | _=>exact False.elim ty
def tBM (K:W.Frag)(T:String)(r:V->List V->Hp->VK->Prop)(to:TE)(t:TA):TE:=fun σ H Q=>to σ H λx H1=>tyV K T x H1/\t σ H1 λxs H2=>r x xs H2 Q
variable {o e:Expr}{es:List Expr}{to:TE}{t:TA}{name:Str}{apos cpos:Pos}{T id:String}{r:V->List V->Hp->VK->Prop}
theorem zGd (pa:PlainAttrs T)(i:Slot T name id)(k:typeOf (.builtin id)=pure (.type "method_descriptor"))(u:MtR X id r)(z:PE X o to)(q:PA X (e::es) t)
  (c:attributeBase o name X.env (eval o X.env)=eval o X.env:=by rfl)
  (j:((backTo cpos (starEach (e::es) X.env)).all (λx=>!x.1)&&(backToKw cpos (keywordEach [] X.env)).all (λx=>x.1.isSome)
   && decide ((e::es).length+([]:List Keyword).length+(if ([]:List Keyword).isEmpty then 0 else 1) < 30))=true:=by rfl)
  (f:(apos.endLine==cpos.line)=true:=by rfl) (n:starEach (e::es) X.env=(false,eval e X.env)::starEach es X.env:=by rfl) (b:(backTo cpos (starEach es X.env)).any (·.1)=false:=by rfl) :
  PE X (.Call (.Attribute o name apos) (e::es) [] cpos) (tBM X.K T r to t):=by
 intro a s σ H Q I h;refine wpAny_Call_method_late c j f rfl (thn (z a s σ H _ I h) λv w g=>?_);obtain⟨x,C,l,r1,ty,E⟩:=g;obtain⟨F,D⟩:=zP1 l r1 ty;refine⟨T,id,pa,i,k,F,D,?_⟩;have m:=q cpos a w σ C _ l E;rw[n] at m ⊢;refine Calls.callWith_builtin (by show (false||(backTo cpos (starEach es X.env)).any (·.1))=false;rw[b]<;>rfl) (Calls.evalArgs_plain ?_);exact thn m λus B d=>by obtain⟨y,G,A,r2,p⟩:=d;exact u a B σ G x y v us Q A r1 r2 p
end
def MtM (X:Cx)(id:String)(r:V->List V->Hp->VK->Prop):Prop :=
 ∀ (pins:List (Addr×Obj)) (s:Shared) (σ:St) (H:Hp) (x:V) (xs:List V) (v:Value) (us:List Value) (Q:VK),Inv X pins σ H s->RelV x v->Vals xs us->r x xs H Q ->
  wpAny (model X.prog X.w) X.A (call (.builtin id) (v::us)) (EP X pins σ Q) X.xe s
theorem Vals.one:∀ {x:V} {us:List Value},Vals [x] us->∃ u,us=[u]/\RelV x u
 | _,_,.cons r .nil=>⟨_,rfl,r⟩
theorem Vals.two (h:Vals [x,y] us):∃ u v,us=[u,v]/\RelV x u/\RelV y v:=by
 cases h with
 | cons r t =>
  cases t with
  | cons q a =>
   cases a;exact⟨_,_,rfl,r,q⟩
theorem Vals.zero:∀ {us:List Value},Vals [] us->us=[]
 | _,.nil=>rfl
theorem Vals.dropLast (h:Vals xs us):Vals xs.dropLast us.dropLast:=by
 induction h with
 | nil=>exact .nil
 | cons r t a =>
  cases t with
  | nil=>exact .nil
  | cons q b=>exact .cons r a
theorem Vals.reverse (h:Vals xs us):Vals xs.reverse us.reverse:=by
 induction h with
 | nil=>exact .nil
 | cons r t a=>rw[reverse_cons,reverse_cons];exact Vals.append a (.cons r .nil)
theorem zF0 {O:Type}:∀ (l:List O) (i:Nat),(l.eraseIdx i).length<=l.length
 | [],_=>le_refl _
 | _::_,0=>Nat.le_succ _
 | _::r,i+1=>Nat.succ_le_succ (zF0 r i)
section
variable {X:Cx}{pins:List (Addr×Obj)}{σ:St}{H:Hp}{s:Shared}{l b:Addr}{xs ys zs:List V}
theorem Inv.lset {a:List Value}(I:Inv X pins σ H s)(c:H l=some (.lst xs))
  (e:s.heap.get? l=some { cls:=.type "list",data:=.seq a.toArray n }) (h:f a.toArray=its'.toArray) (d:Vals ys its') (hz:ys.length<=sizeLine) :
  Inv X pins σ (upd H l (.lst ys)) { s with heap:=s.heap.update l (Obj.mapSeq f),toks:=t' }:=by
 have q:=PySem.IsL.update e f
 simp_all
 refine I.write (by rw[c];exact trivial) (.inl rfl) (λb' u b g=>(Heap.get?_update_other s.heap _ (Ne.symm b)).trans g) ⟨_,q⟩ ?_;exact⟨hz,its',_,d,q⟩
theorem Inv.lnew (I:Inv X pins σ H s)(a:Vals ys its)(hz:ys.length<=sizeLine) :
  Inv X pins σ (upd H s.heap.objs.size (.lst ys)) { s with heap:=s.heap.push { cls:=.type "list",data:=.seq its.toArray },toks:=t' } :=
 I.laid (λ_ _ q=>get?_push_of_some _ q) (le_refl _) ⟨hz,its,0,a,get?_push_size _ rfl⟩
theorem Inv.fresh (I:Inv X pins σ H s):H s.heap.objs.size=none:=I.hok.fresh (le_refl _)
theorem Inv.lstM (I:Inv X pins σ H s)(b:H l=some (.lst xs)):xs.length<=sizeLine/\∃ (a:List Value) (n:Nat),Vals xs a/\xs.length=a.length/\s.heap.get? l=some { cls:=.type "list",data:=.seq a.toArray n }:=by
 obtain⟨z,a,n,r,e⟩:=I.hok l _ b;exact⟨z,a,n,r,r.length,e⟩
theorem zLg (h:n<=sizeLine):Builtin.List.listTooLong n=false:=decide_eq_false (by omega)
end
section
variable {X:Cx}
def zOB:V->List V->Hp->VK->Prop:=λx vs H Q=>∃ l xs y,x=.ref l/\vs=[y]/\H l=some (.lst xs)/\xs.length < sizeLine/\Q .non (upd H l (.lst (xs++[y])))
theorem zFu:MtM X "list.append" zOB:=by
 intro c s σ H x j v us Q I d f h;obtain⟨l,m,y,rfl,rfl,b,k,q⟩:=h;cases d;obtain⟨u,rfl,g⟩:=f.one;obtain⟨z,a,n,r,i,e⟩:=I.lstM b;refine call_meets F.slot_list_append ⟨_,e,rfl⟩ F.entry_list_append (F.args_list_append_2 _ _) (PySem.list_append l a.toArray n u (by grind)) ⟨e,?_⟩;refine⟨.non,_,I.lset b e (by simp) (r.append (.cons g .nil)) ?_,rfl,q⟩;grind
def zOA:V->List V->Hp->VK->Prop:=λx vs H Q=>∃ l b xs zs,x=.ref l/\vs=[.ref b]/\H l=some (.lst xs)/\H b=some (.lst zs)/\xs.length+zs.length<=sizeLine/\Q .non (upd H l (.lst (xs++zs)))
theorem zJU:MtM X "list.extend" zOA:=by
 intro g s σ H x y v us Q I o j h;obtain⟨l,b,E,B,rfl,rfl,i,p,C,q⟩:=h;cases o;obtain⟨u,rfl,m⟩:=j.one;cases m;obtain⟨z,its,n,r,A,e⟩:=I.lstM i;obtain⟨D,a,t,r2,k,w⟩:=I.lstM p;have f:its.toArray.size+a.toArray.size<=sizeLine:=by rw[xX,xX];omega
 have c:¬ (!its.toArray.isEmpty&&Builtin.List.listTooLong (its.toArray.size+a.toArray.size))=true:=by
  rw[zLg f,Bool.and_false];exact qX
 refine call_meets F.slot_list_extend ⟨_,e,rfl⟩ F.entry_list_extend (F.args_list_extend_2 _ _)
  (AutoSeq1.list_extend_list_list_0 l its.toArray n b a.toArray t c (by omega) (by omega)) ⟨e,w,?_⟩
 refine⟨.non,_,I.lset i e (by simp) (r.append r2) ?_,rfl,q⟩
 simp_all
theorem zGm {O:Type}(xs:List O)(k:Nat):(List.replicate k xs).flatten.length=k*xs.length:=by simp
end
end L2
namespace Att
open PySem PySem.W PySem.Calls PyProof.Rows
theorem zD3 :∀ (ns:List Int) (vs:List Value),WellAll P h vs (ns.map WData.int)->IntsAre vs ns:=by
 intro ns
 induction ns with
 | nil =>
  intro vs w;cases w;exact .nil
 | cons n ns c =>
  intro vs w;cases w with
  | cons a b =>
   cases a;exact .cons _ _ (c _ b)
theorem zHo:∀ {ns:List Int},WData.weightAll (ns.map WData.int)<=2^20->∀ x∈ns,Builtin.Int.intBits x<=2^20
 | n::ns,h,x,hx=>by
  rw[map_cons,WData.weightAll,WData.weight] at h;rcases mem_cons.mp hx with rfl | hx
  .unfold Builtin.Int.intBits;omega
  .exact zHo (by omega) x hx
theorem zIq {l:OpenLaw}(m:l.most=some n)
  (b:l.row.toRowW.claim.pre args=true) (i:WellAll P h vals args) (c:WData.layableAll args=true) :
  ∃ a vs ns,vals=[Value.ref a]/\args=[WData.list (ns.map WData.int)]/\h.get? a=some { cls:=.type "list",data:=.seq vs.toArray }/\IntsAre vs ns/\(ns.length<=n/\∀ x∈ns,Builtin.Int.intBits x<=2^20):=by
 have k:=(pre_splitW b).2;obtain⟨d,r,rfl,t,q⟩:=hasAllW_cons ((pre_splitW b).1);obtain rfl:=hasAllW_nil q;obtain⟨v,rfl,o⟩:=hasW_list t;obtain⟨ns,rfl⟩:=items_int o;have e:ns.length<=n:=by
  have g:(WTm.not (.lt (.lit (.int (n:Int))) (.len (.arg 0)))).holds [] { args:=[.list (ns.map .int)] }=true:=by
   have g:=(holds_andW k).1;rw[m] at g;exact g
  have u:=condW_of g (w_not (w_lt w_lit (w_len_list (w_arg rfl))));grind
 cases i with
 | cons p j =>
  cases j;cases p with
  | list s f=>exact⟨_,_,ns,rfl,rfl,s,zD3 ns _ f,e,zHo (of_decide_eq_true (Bool.and_eq_true_iff.mp (W.layW_cons c).1).2)⟩
theorem zI2 (l:OpenLaw)(args:List WData):l.row.toRowW.claim.post args (.bool true) args=true :=
 postW_of
  rfl
  (w_eq_bool (w_res rfl) w_lit) rfl
theorem zG5 {l:OpenLaw}
  (H:l.most=some n) (k:d.params.defaults=[])
  (call:∀ (w:World) (s0 O4:Shared) (mg mb:Str->Option Value) (fa:Addr) (o:Obj) (pm cd doc:Value) (a:Addr) (vs:List Value) (ns:List Int),
   Ground q loose [] XP w s0 mg mb O4.heap->YP w O4.heap ->
   O4.heap.get? fa=some o->o.data=.func (docDef d.name d.params d.body d.scope pm cd doc)->O4.heap.CodeRec cd d.name->mg d.name=some (.ref fa) ->
   O4.heap.get? a=some { cls:=.type "list",data:=.seq vs.toArray }->IntsAre vs ns->(ns.length<=n/\∀ x∈ns,Builtin.Int.intBits x<=2^20)->O4.gens=#[] ->
   codeAny (model l.prog w) callerA (.call (.ref fa) ⟨[.ref a],[]⟩) (λr s'=>r=.ok (.ret (.bool true))/\OldK O4.heap s'.heap/\s'.os=O4.os/\AllBare s'.gens) O4) :
  WalkO q loose XP YP l.row.toRowW d [] (λf vs=>PySem.call f vs):=by
 intro w s0 O4 mg mb G Y fa o pm cd doc J kV D C j s m u p t I c g F i A;obtain rfl:=Dflts.none s k;obtain rfl:kV=.none:=Dflts.noKw s;obtain⟨a,vs,ns,rfl,rfl,e,b,h⟩:=zIq H c i g;refine enter_call (codeAny_mono (call w s0 O4 mg mb fa o pm cd doc a vs ns G Y D (fd_plain C) j m e b h u) λr s' B=>?_);obtain⟨rfl,z,v,E⟩:=B;exact⟨.inl ⟨.bool true,.bool true,[],rfl,λ_=>rfl,.bool true,zI2 l _,λ_=>⟨List.Pairwise.nil,λ_ y=>(nomatch y)⟩⟩,z,v,E⟩
section
variable {prog:Program}{w:World}{A:Around}{E:Value->Shared->Prop}{s:Shared}{K:Frag}
end
end Att
namespace L2
open PySem Spec PyProof.Rows
theorem zCw:∀ {vs:List Value} {ns:List Int},IntsAre vs ns->Vals (ns.map V.int) vs
 | _,_,.nil=>.nil
 | _,_,.cons n t h=>.cons ⟨t,rfl⟩ (zCw h)
def Only (H:Hp):Prop:=∀ b,H b=none\/∃ o xs,H b=some (.frz o (.lst xs))
noncomputable def tblT (tl:List (Str×Addr×Addr)):List (Addr×Str):=tl.map λt=>(t.2.2,lamQ t.1)
noncomputable def hpT (tl:List (Str×Addr×Addr))(H:Hp):Hp:=λb=>match (tblT tl).lookup b with
 | some q=>some (.tbl q)
 | none=>H b
theorem zFv {T:Type}:∀ {l:List (Addr×T)} {a:Addr} {b:T},l.lookup a=some b->(a,b)∈l
 | [],_,_,e=>by cases e
 | (c,x)::r,a,b,e=>by
  rw[lookup_cons] at e;cases hb:a==c with
  | true=>rw[hb] at e;cases e;rw[eq_of_beq hb];exact .head _
  | false=>rw[hb] at e;exact .tail _ (zFv e)
theorem zEc:∀ {tl:List (Str×Addr×Addr)} {x:Str} {c P:Addr},(tl.map λt=>t.2.2).Nodup->(x,c,P)∈tl->(tblT tl).lookup P=some (lamQ x)
 | t::tl,x,c,P,nd,h=>by
  rcases mem_cons.mp h with e | h
  .cases e;unfold tblT;rw[map_cons,lookup_cons,beq_self_eq_true]
  .have n:=(nodup_cons.mp (show ((t.2.2)::tl.map λt=>t.2.2).Nodup from nd));have ne:(P==t.2.2)=false:=by
    refine beq_eq_false_iff_ne.mpr λz=>n.1 ?_
    rw[<- z];exact mem_map.mpr ⟨_,h,rfl⟩
   unfold tblT;rw[map_cons,lookup_cons,ne];exact zEc n.2 h
theorem zLp {K:W.Frag}{tl:List (Str×Addr×Addr)}
  (KX:K.In O4.heap) (a3:O4.heap.Ns mainGlobals mg) (B:O4.heap.Ns builtinsNs mb) (c8:∀ x:Str,x ≠ "__name__"->mb x=bootBuiltins x) (a4:O4.heap.NoLimit) (G:O4.heap.NoSeer) (b9:(model P w).prog.given.tree=none) (hg:O4.gens=#[])
  (Q:O4.heap.get? a=some { cls:=.type "list",data:=.seq vs.toArray }) (hi:IntsAre vs ns) (hl:ns.length<=sizeLine) (hr:Room k callerA)
  (F:∀ base:Heap,K.In base->base.Ns mainGlobals mg->FnOk P w K mg base CX k fa fd [x] sp) (O:∀ (s:Shared) (u:Value),BindsTo s fd ⟨[u],[]⟩ [(x,u)])
  (d0:∃ bm ob,mg "__builtins__"=some (.ref bm)/\bm≠builtinsNs/\O4.heap.get? bm=some ob/\ob.cls=.type "module"/\ob.dict=some builtinsNs/\ob.data=.plain) (I:∀ t∈tl,W.CodeHd O4.heap t.2.1 t.2.2/\O4.heap.get? t.2.2=some (W.tabObj #[])) (a7:∀ x∈zBe,tabQ K x=tl.lookup x) (hnd:(tl.map λt=>t.2.2).Nodup) (d2:W.noTabs K=true)
  (c6:∀ H:Hp,(∀ xs,H a≠some (.lst xs))->SqL K H a (ns.map V.int)->sp [.ref a] H (λv _=>v=.bl true) λ_ _ _=>False)
  (d1:∀ H e s',CX [] H O4 (λ_ _ _=>False) e s'->False) :
  codeAny (model P w) callerA (.call (.ref fa) ⟨[.ref a],[]⟩) (λr s'=>r=.ok (.ret (.bool true))/\OldK O4.heap s'.heap/\s'.os=O4.os/\AllBare s'.gens) O4:=by
 have rv:=zCw hi;have X:=hi.length;have p:∀ {b:Addr} {j:Str},(tblT tl).lookup b=some j->∃ c,W.CodeHd O4.heap c b/\O4.heap.get? b=some (W.tabObj #[]):=λ{b j} e=>by
  obtain⟨t,mt,et⟩:=mem_map.mp (zFv e);cases et;exact⟨t.2.1,I t mt⟩
 have U:(tblT tl).lookup a=none:=by
  cases e:(tblT tl).lookup a with
  | none=>rfl
  | some j =>
   obtain⟨_,_,g⟩:=p e;rw[Q] at g;cases g
 have J:∀ E:Hp,Only E->SqL K E a (ns.map V.int)->HOk P w E O4.heap->(∀ b,E b≠none->b=a)->(E a≠none->K.lookup a=none) ->
   codeAny (model P w) callerA (.call (.ref fa) ⟨[.ref a],[]⟩) (λr s'=>r=.ok (.ret (.bool true))/\OldK O4.heap s'.heap/\s'.os=O4.os/\AllBare s'.gens) O4:=by
  intro E Z c3 T a0 c1;obtain⟨H,eH⟩:∃ H:Hp,H=hpT tl E:=⟨_,rfl⟩;have R:∀ {b:Addr} {j:Str},(tblT tl).lookup b=some j->H b=some (.tbl j):=λ{b j} e=>by rw[eH];unfold hpT;rw[e]
  have i:∀ {b:Addr},(tblT tl).lookup b=none->H b=E b:=λ{b} e=>by rw[eH];unfold hpT;rw[e]
  have A:∀ {b:Addr} {u:HO},E b=some u->H b=some u:=λ{b u} e=>by
   have z:b=a:=a0 b (by rw[e];simp);rw[i (by rw[z];exact U)];exact e
  have hS:SqL K H a (ns.map V.int):=by
   rcases c3 with (z | ⟨o,z⟩) | z
   .exact .inl (.inl (A z))
   .exact .inl (.inr ⟨o,A z⟩)
   .exact .inr z
  have hL:∀ xs,H a≠some (.lst xs):=λxs e=>by
   rw[i U] at e;rcases Z a with z | ⟨o,ys,z⟩
   .rw [z] at e;cases e
   .rw [z] at e;cases e
  have b0:HOk P w H O4.heap:=λb u e=>by
   cases z:(tblT tl).lookup b with
   | some j =>
    rw[R z] at e;cases e;obtain⟨_,_,g⟩:=p z;exact⟨#[],g,trivial,λpos cv z=>by cases (show (none:Option Value)=some cv from z)⟩
   | none =>
    rw[i z] at e;exact(T b u e).stay (λ_ _ _ q=>q) (λ_ q=>A q) (λ_ _ q=>A q) λ_ _ _ q _=>A q
  have hT:zHq K H:=λx hx c P e=>R (by
   have g:=a7 x hx;rw[e] at g;exact zEc hnd (PySem.mem_of_lookup g.symm))
  have split:∀ {b:Addr},H b≠none->((tblT tl).lookup b=none/\b=a/\E a≠none)\/∃ j,(tblT tl).lookup b=some j:=λ{b} e=>by
   cases z:(tblT tl).lookup b with
   | some j=>exact .inr ⟨j,rfl⟩
   | none =>
    rw[i z] at e;have:=a0 b e;exact .inl ⟨rfl,this,by rw[<- this];exact e⟩
  have f:∀ {b:Addr} {o:Obj},O4.heap.get? b=some o->H b=none->(hidT O4.heap H).get? b=some o:=λe n=>zLx e n
  have c4:∀ {b:Addr} {o:Obj} {es:Array DictEntry} {S:Nat},O4.heap.get? b=some o->o.data=.dict es S->H b=none:=λ{b o es S} e d=>by
   cases q:H b with
   | none=>rfl
   | some u =>
    rcases split (b:=b) (by rw[q];simp) with ⟨_,M,_⟩ | ⟨j,z⟩
    .subst M;rw[Q] at e;cases e;have d':Data.seq vs.toArray _=Data.dict es S:=d;cases d'
    .obtain ⟨_,_,g⟩:=p z;rw[g] at e;cases e;cases (show Data.fields #[]=Data.dict es S from d)
  have b7:∀ {b:Addr} {o:Obj},O4.heap.get? b=some o->o.cls=.type "module"->H b=none:=λ{b o} e d=>by
   cases q:H b with
   | none=>rfl
   | some u =>
    rcases split (b:=b) (by rw[q];simp) with ⟨_,M,_⟩ | ⟨j,z⟩
    .subst M;rw[Q] at e;cases e;exact absurd (show Value.type "list"=Value.type "module" from d) (by decide)
    .obtain ⟨_,_,g⟩:=p z;rw[g] at e;cases e;exact absurd (show Value.none=Value.type "module" from d) (by decide)
  have l:∀ {b:Addr} {m:Str->Option Value},O4.heap.Ns b m->(hidT O4.heap H).Ns b m:=λ{b m} ⟨o,es,S,e,d,r⟩=>⟨o,es,S,f e (c4 e d),d,r⟩
  have a6:K.In (hidT O4.heap H):=λb o e=>f (KX b o e) (by
   cases q:H b with
   | none=>rfl
   | some u =>
    rcases split (b:=b) (by rw[q];simp) with ⟨_,M,n0⟩ | ⟨j,z⟩
    .subst M;rw[c1 n0] at e;cases e
    .obtain ⟨_,_,g⟩:=p z;have e3:=KX b o e;rw[g] at e3;cases e3;have D:=all_eq_true.mp d2 (b,W.tabObj #[]) (W.mem_of_lookupK e);exact absurd (show false=true from D) qX)
  have hM:Mod K mg (hidT O4.heap H):=⟨a6,l a3,⟨mb,l B,c8⟩,let ⟨mc,h1,D⟩:=a4;⟨mc,l h1,D⟩,⟨let ⟨mc,h1,D⟩:=G.statics;⟨mc,l h1,D⟩,let ⟨mc,h1,D⟩:=G.mods;⟨mc,l h1,D⟩,let ⟨mc,h1,D⟩:=G.imp;⟨mc,l h1,D⟩,let ⟨mc,bm,ob,h1,D,h3,h4,h5⟩:=G.main;⟨mc,bm,ob,l h1,D,f h3 (b7 h3 h4),h4,h5⟩⟩,let ⟨bm,ob,b1,b2,b3,b4,b5⟩:=d0;⟨bm,ob,b1,b2,f b3 (b7 b3 b4),b4,b5⟩,λx hx c P e=>by
   have g:=a7 x hx;rw[e] at g;obtain⟨o,c7,b6,tf,N,tg,c0,a9,tt,Y,g2,g3,g4,g5,g6,g7,g8,g9,c5⟩:=(I (x,c,P) (PySem.mem_of_lookup g.symm)).1;refine⟨o,c7,b6,tf,N,tg,c0,a9,tt,f Y ?_,g2,g3,g4,g5,g6,g7,g8,g9,c5⟩;cases q:H c with
   | none=>rfl
   | some u =>
    rcases split (b:=c) (by rw[q];simp) with ⟨_,M,_⟩ | ⟨j,z⟩
    .subst M;rw[Q] at Y;cases Y;exact absurd (show Value.type "list"=Value.type "code" from g2) (by decide)
    .obtain ⟨_,_,g⟩:=p z;rw[g] at Y;cases Y;exact absurd (show Value.none=Value.type "code" from g2) (by decide)⟩
  have e0:Env0 P w K mg (hidT O4.heap H) callerA [] O4 H:=⟨rfl,hM,λb o e=>zOa e,Nat.le_of_eq ((W.hideAll_size _ _)),trivial,λb B=>absurd (show b∈([]:List Addr) from B) (by simp),b0,.of_eq hg,b9,hT⟩;refine codeAny_mono ((F _ a6 (l a3)).run callerA [] O4 H ⟨[.ref a],[]⟩ [.ref a] [.ref a] _ _ hr e0 (O O4 (.ref a)) (.cons rfl .nil) (c6 H hL hS)) λr s' h=>?_
  cases r with
  | error e=>exact(d1 H e s' h).elim
  | ok fl =>
   cases fl with
   | next=>exact False.elim h
   | brk=>exact False.elim h
   | cont=>exact False.elim h
   | ret u =>
    obtain⟨v,H',os,a2,un,L,r',q⟩:=h;have q':v=.bl true:=q;subst q';obtain rfl:u=Value.bool true:=r';have a8:∀ b o,O4.heap.get? b=some o->asItWas O4.heap s'.heap b o/\∃ o',s'.heap.get? b=some o':=λb o e=>by
     cases z:(tblT tl).lookup b with
     | some j =>
      obtain⟨c,C,g⟩:=p z;rw[e] at g;cases g;obtain⟨ps,e3,_⟩:=L b _ (un.tbls b _ (R z));exact⟨.inr (.inl ⟨(C.tab e).isCodeTable,rfl,#[],ps,rfl,by rw[e3];simp⟩),_,e3⟩
     | none =>
      have k:s'.heap.get? b=some o:=by
       cases q:H b with
       | none=>exact un.keep b o e q (by intro z;exact absurd (show b∈([]:List Addr) from z) (by simp)) (by simp)
       | some u =>
        rcases Z b with y | ⟨ob,xs,y⟩
        .rw [i z,y] at q;cases q
        .have y1:=A y;have z2:=un.frzs b ob _ y1;obtain⟨e1,_⟩:=b0 b _ y1;obtain⟨g,_⟩:=L b _ z2;rw[e] at e1;cases e1;exact g
      exact⟨.inl k,o,k⟩
    exact⟨rfl,⟨λb o e=>(a8 b o e).1,λb o e=>(a8 b o e).2⟩,os,a2⟩
 cases hk:K.lookup a with
 | some o =>
  have e:=KX a o hk;rw[Q] at e;cases e;refine J (λ_=>none) (λ_=>.inl rfl) (.inr ⟨_,vs.toArray,_,hk,rfl,rfl,rfl,by rw[xX,X];exact hl,by simpa using rv⟩) (λb u z=>by have z':(none:Option HO)=some u:=z;cases z') (λb z=>absurd rfl z) λz=>absurd rfl z
 | none =>
  refine J (λb=>if b=a then some (.frz { cls:=.type "list",data:=.seq vs.toArray } (.lst (ns.map V.int))) else none) (λb=>?_) (.inl (.inr ⟨{ cls:=.type "list",data:=.seq vs.toArray },if_pos rfl⟩)) (λb u z=>?_) (λb z=>?_) λ_=>hk
  .by_cases B:b=a
   .exact .inr ⟨_,_,if_pos B⟩
   .exact .inl (if_neg B)
  .by_cases B:b=a
   .have z':=(if_pos B).symm.trans z;cases z';subst B;exact⟨Q,by rw[List.length_map];exact hl,vs,_,rv,Q⟩
   .have z':=(if_neg B).symm.trans z;cases z'
  .by_cases B:b=a
   .exact B
   .exact absurd (if_neg B) z
end L2
namespace L2
open PySem Spec PyProof.Rows
theorem zNp {l:W.OpenLaw}{K:Params->W.Frag}{CX:World->CXT}{B:World->Sp}
  (I:l.most=some n) (j:n<=sizeLine) (r:d.params.defaults=[]) (J:importsNone q=true) (Q:∀ w,(model l.prog w).prog.given.tree=none) (P:Room k callerA) (tl:List (Str×Addr×Addr)) (i:∀ (w:World) (h:Heap),YP w h->∀ t∈tl,W.CodeHd h t.2.1 t.2.2/\h.get? t.2.2=some (W.tabObj #[])) (p:∀ w:World,∀ x∈zBe,tabQ (K w.params) x=tl.lookup x) (R:∀ t∈tl,t.1∈zBe/\tl.lookup t.1=some t.2) (hnd:(tl.map λt=>t.2.2).Nodup) (y:∀ w:World,W.noTabs (K w.params)=true)
  (D:∀ (w:World) (h:Heap),YP w h->(K w.params).In h)
  (F:∀ (w:World) (mg:Str->Option Value) (fa:Addr) (h:Heap),(K w.params).In h->h.Ns mainGlobals mg->mg d.name=some (.ref fa) ->
   ∃ fd:FuncData,(∀ (s:Shared) (u:Value),BindsTo s fd ⟨[u],[]⟩ [(x,u)]) /\
    ∀ base:Heap,(K w.params).In base->base.Ns mainGlobals mg->FnOk l.prog w (K w.params) mg base (CX w) k fa fd [x] (B w))
  (z:∀ (w:World) (H:Hp) (a:Addr) (ns:List Int),(ns.length<=n/\∀ x∈ns,Builtin.Int.intBits x<=2^20)->(∀ xs,H a≠some (.lst xs))->SqL (K w.params) H a (ns.map V.int)->B w [.ref a] H (λv _=>v=.bl true) λ_ _ _=>False)
  (A:∀ (w:World) (H:Hp) (s:Shared) (e:Value) (s':Shared),CX w [] H s (λ_ _ _=>False) e s'->False) :
  W.WalkO q loose XP YP l.row.toRowW d [] (λf vs=>PySem.call f vs):=by
 refine Att.zG5 I r λw X O mg mb fa o pm cd L a vs ns G Y ho Z E m g c b S=>?_
 have C:=D w _ Y;obtain⟨fd,T,N⟩:=F w mg fa _ C G.T.g m;exact zLp C G.T.g G.T.b G.T.builtins G.T.nolimit (G.T.seer J) (Q w) S g c (le_trans b.1 j) P N T G.T.bmain (i w _ Y) (p w) hnd (y w) (λH M U=>z w H a ns b M U) λH e s'=>A w H O e s'
noncomputable def zAG (s:Stmt)(j:Nat):Stmt:=match s with
 | .ClassDef _ _ _ body _ _ _ _ _ _ _=>body.getD j (.Pass ⟨0,0,0,0⟩)
 | _=>.Pass ⟨0,0,0,0⟩
noncomputable def zAg (s:Stmt):Arguments:=match s with
 | .FunctionDef _ a _ _ _ _ _ _ _ _=>a
 | _=>{ posonlyargs:=[],args:=[],vararg:=none,kwonlyargs:=[],kw_defaults:=[],kwarg:=none,defaults:=[] }
noncomputable def zAF (s:Stmt):List Stmt:=match s with
 | .FunctionDef _ _ b _ _ _ _ _ _ _=>b
 | _=>[]
noncomputable def zAA (s:Stmt):Scope:=match s with
 | .FunctionDef _ _ _ _ _ _ sc _ _ _=>sc
 | _=>{ kind:=.function,names:=[],isGenerator:=false,isCoroutine:=false }
abbrev CX0:CXT:=λ_ _ _ _ _ _=>False
abbrev E0:XK:=λ_ _ _=>False
theorem zH2 :zEl CX0 X E0:=λ_ _ _ _ _ _ _ h=>h.elim
structure Fun (K:W.Frag)(x qual:Str)(st:Stmt)(f:Addr)(fd:FuncData):Prop where
 ex:∃ (oc:Value) (od:Option Addr) (kV doc pm:Value) (an:Option Addr) (cdv ct:Value) (osl:Array (Option Value)),
  fd=W.fnOf x qual (zAg st) (zAF st) (zAA st) .none kV doc pm an cdv ct/\K.lookup f=some ⟨oc,od,.func fd,osl⟩/\W.codeIn K cdv qual=true
 kp:W.keepIn K (.ref f)=true
section
variable {P:Program}{w:World}{K:W.Frag}{mg:Str->Option Value}{base:Heap}
theorem Fun.ok {st:Stmt}(F:Fun K x qual st f fd)(S:zAV N ps (zAA st))(len:∀ vs H Q E,sp vs H Q E->vs.length=ps.length)
  (a:∀ (cdv:Value) (A:Around) (outer:List Env) (s:Shared) (H:Hp) (vs:List V) (Q:VK) (E:XK),Room k (A.deeper (envOfC qual (zAA st) s.heap.objs.size f cdv))->sp vs H Q E ->
   ∃ t,PSs (cxOf CX0 P w K mg base N qual (zAA st) f cdv A outer s H E).nox (zAF st) t/\t { nx:=λ_ H'=>Q .non H',rt:=Q } (zB8 N vs) H):FnOk P w K mg base CX0 (k+1) f fd ps sp:=by
 obtain⟨j,m,kV,d,n,l,cdv,ct,e,rfl,i,b⟩:=F.ex;refine zML i b S len λA outer s H vs Q E g c=>?_
 obtain⟨t,h,q⟩:=a cdv A outer s H vs Q E g c;exact⟨t,h.nox,q⟩
theorem Fun.binds {st:Stmt}(F:Fun K x qual st f fd)
  (h:∀ (kV doc pm:Value) (an:Option Addr) (cdv ct:Value) (us:List Value),us.length=ps.length->bindArgs (W.fnOf x qual (zAg st) (zAF st) (zAA st) .none kV doc pm an cdv ct) ⟨us,[]⟩=pure (ps.zip us)):zBJ K fd ps []:=by
 obtain⟨e,d,kV,doc,pm,an,cdv,ct,a,rfl,c,b⟩:=F.ex;exact .all (h kV doc pm an cdv ct)
theorem zKH {st:Stmt}{kV:Value}(l:K.lookup f=some ⟨oc,od,.func (W.fnOf x qual (zAg st) (zAF st) (zAA st) .none kV doc pm an cdv ct),osl⟩)
  (c:W.codeIn K cdv qual=true) (k:W.keepIn K (.ref f)=true):Fun K x qual st f (W.fnOf x qual (zAg st) (zAF st) (zAA st) .none kV doc pm an cdv ct):=⟨⟨oc,od,kV,doc,pm,an,cdv,ct,osl,rfl,l,c⟩,k⟩
end
theorem iteF {B:Prop}(h:B):if false=true then A else B:=by grind
theorem iteT {B:Prop}(h:A):if true=true then A else B:=by simp_all
def Same (H H':Hp):Prop:=∀ b o,H b=some o->H' b=some o
theorem Same.refl (H:Hp):Same H H:=λ_ _ h=>h
theorem Same.trans (a:Same H H1)(b:Same H1 H2):Same H H2:=λc o h=>b c o (a c o h)
theorem Same.free (e:Same H H')(h:H' l=Option.none):H l=Option.none:=by
 cases q:H l with
 | none=>rfl
 | some o =>
  rw[e l o q] at h;omega
theorem Same.seq {K:W.Frag}(e:Same H H')(h:SqL K H a xs):SqL K H' a xs:=by
 rcases h with (h | ⟨o,h⟩) | h
 .exact .inl (.inl (e _ _ h))
 .exact .inl (.inr ⟨o,e _ _ h⟩)
 .exact .inr h
end L2
end
section
namespace DL
theorem nof {p:Prop}(h:false=true):p:=nomatch h
open PySem Spec PyProof.Rows L2
abbrev St:=L2.St
abbrev anyU:HO:=.ext λ_=>True
structure LamI where
 qual:Str
 params:Arguments
 body:Expr
 scope:Scope
noncomputable def frN (L:LamI):List Str:=((L.scope.names.filter λp=>p.2==.free).map (·.1)).reverse
def zBf (H:Hp):List (Str×Addr)->List V->Prop:=Paired λp v=>∃ o u,H p.2=some (.frz o anyU)/\o.data=.cell (some u)/\RelV v u
def zDO (H:Hp)(L:LamI)(f:Addr)(vs:List V):Prop:=∃ cl pm c ctv oc u1,H f=some (.frz (W.kla_obj "<lambda>" L.qual L.params L.body L.scope cl pm c ctv) anyU)/\H c=some (.frz oc u1)/\zK9 oc L.qual/\cl.map (·.1)=frN L/\(cl.map (·.2)).Nodup/\zBf H cl vs
noncomputable def zE7:List Str:=["shape","ink","strength","layer","layers"]
noncomputable def zKh (ns:List Str):Bool:=(ns.any λn=>n==("strength":Str)||n==("layer":Str))&&ns.all λn=>zE7.contains n
noncomputable def zEC (fs:List (Str×V)):Bool:=zKh (fs.map (·.1))
abbrev zCd (H H':Hp):Prop:=∀ b o,H b=some o->(∀ C dx fs,o=.ins C dx fs->zEC fs=true)->H' b=some o
theorem zBf.monoF (e:zCd H H')(h:zBf H cl vs):zBf H' cl vs:=Paired.mapP h λ_ _ a=>by obtain⟨o,u,b,c⟩:=a;exact⟨o,u,e _ _ b (λ_ _ _ z=>nomatch z),c⟩
theorem zDO.monoF (e:zCd H H')(h:zDO H L f vs):zDO H' L f vs:=by
 obtain⟨cl,l,c,a,i,g,d,n,j,b,m,k⟩:=h;exact⟨cl,l,c,a,i,g,e _ _ d (λ_ _ _ z=>nomatch z),e _ _ n (λ_ _ _ z=>nomatch z),j,b,m,k.monoF e⟩
theorem zDO.mono (e:Same H H')(h:zDO H L f vs):zDO H' L f vs:=h.monoF λb o q _=>e b o q
inductive D where
 | non | bl (b:Bool) | int (i:Int) | str (x:Str) | tup (l:List D) | lst (l:List D) | exc (c:Str) | dct (ks:List (Int×Int)) | lam (j:Nat) (L:LamI) (l:List D) | obj (c:Str) (ns:List Str) (l:List D) | fn (n:Nat) (x:Str)
noncomputable instance:Inhabited D:=⟨.non⟩
def zAp (K:W.Frag)(c:Str)(C:Addr):Prop:=W.nsIn K mainGlobals c=some (some (.ref C))
def zK6 (K:W.Frag)(H:Hp)(c:Str)(ns:List Str)(a:Addr)(vs:List V):Prop:=∃ C dx gs,H a=some (.ins C dx gs)/\zEC gs=true/\zAp K c C/\(ns.map λn=>gs.lookup n)=vs.map some
theorem zK6.monoF {K:W.Frag}(e:zCd H H')(h:zK6 K H c ns a vs):zK6 K H' c ns a vs :=
 let ⟨C,dx,gs,h1,h2,h3⟩:=h;⟨C,dx,gs,e _ _ h1 λ_ _ _ z=>by cases z;exact h2,h2,h3⟩
noncomputable def pk (p:Int×Int):List Key:=[Sum.inl p.1,Sum.inl p.2]
mutual
noncomputable def Den (K:W.Frag)(H:Hp):D->V->Prop
 | .non,v=>v=.non
 | .bl b,v=>v=.bl b
 | .int i,v=>v=.int i
 | .str x,v=>v=.str x
 | .tup ds,v=>∃ a vs,v=.ref a/\SqT K H a vs/\DenL K H ds vs
 | .lst ds,v=>∃ a vs,v=.ref a/\SqL K H a vs/\DenL K H ds vs
 | .exc c,v=>∃ a o u C,v=.ref a/\H a=some (.frz o u)/\o.cls=.ref C/\(∃ vs,o.data=.fields vs)/\zAp K c C
 | .dct ks,v=>∃ a kvs,v=.ref a/\H a=some (.dT kvs)/\kvs.map (·.1)=ks.map pk
 | .lam _ L ds,v=>∃ a vs,v=.ref a/\zDO H L a vs/\DenL K H ds vs
 | .obj c ns ds,v=>∃ a vs,v=.ref a/\zK6 K H c ns a vs/\DenL K H ds vs
 | .fn _ x,v=>∃ a,v=.ref a/\zAp K x a
noncomputable def DenL (K:W.Frag)(H:Hp):List D->List V->Prop
 | [],vs=>vs=[]
 | d::ds,vs=>∃ v ws,vs=v::ws/\Den K H d v/\DenL K H ds ws
end
theorem Same.tupS {K:W.Frag}(e:Same H H')(h:SqT K H a xs):SqT K H' a xs:=by
 rcases h with (h | ⟨o,h⟩) | h
 .exact .inl (.inl (e _ _ h))
 .exact .inl (.inr ⟨o,e _ _ h⟩)
 .exact .inr h
theorem zCd.tupS {K:W.Frag}(e:zCd H H')(h:SqT K H a xs):SqT K H' a xs:=by
 rcases h with (h | ⟨o,h⟩) | h
 .exact .inl (.inl (e _ _ h λ_ _ _ z=>nomatch z))
 .exact .inl (.inr ⟨o,e _ _ h λ_ _ _ z=>nomatch z⟩)
 .exact .inr h
theorem zCd.seq {K:W.Frag}(e:zCd H H')(h:SqL K H a xs):SqL K H' a xs:=by
 rcases h with (h | ⟨o,h⟩) | h
 .exact .inl (.inl (e _ _ h λ_ _ _ z=>nomatch z))
 .exact .inl (.inr ⟨o,e _ _ h λ_ _ _ z=>nomatch z⟩)
 .exact .inr h
section
variable {K:W.Frag}{H H':Hp}
mutual
theorem Den.monoF (e:zCd H H'):∀ {d:D} {v:V},Den K H d v->Den K H' d v
 | .non,_,h=>by rw[Den] at h ⊢;exact h
 | .bl _,_,h=>by rw[Den] at h ⊢;exact h
 | .int _,_,h=>by rw[Den] at h ⊢;exact h
 | .str _,_,h=>by rw[Den] at h ⊢;exact h
 | .tup ds,_,h=>by
  rw[Den] at h ⊢;obtain⟨a,vs,h1,h2,h3⟩:=h;exact⟨a,vs,h1,zCd.tupS e h2,DenL.monoF e h3⟩
 | .lst ds,_,h=>by
  rw[Den] at h ⊢;obtain⟨a,vs,h1,h2,h3⟩:=h;exact⟨a,vs,h1,zCd.seq e h2,DenL.monoF e h3⟩
 | .exc c,_,h=>by
  rw[Den] at h ⊢;obtain⟨a,o,u,C,h1,h2,h3⟩:=h;exact⟨a,o,u,C,h1,e _ _ h2 (λ_ _ _ z=>nomatch z),h3⟩
 | .dct ks,_,h=>by
  rw[Den] at h ⊢;obtain⟨a,kvs,h1,h2,h3⟩:=h;exact⟨a,kvs,h1,e _ _ h2 (λ_ _ _ z=>nomatch z),h3⟩
 | .lam _ L ds,_,h=>by
  rw[Den] at h ⊢;obtain⟨a,vs,h1,h2,h3⟩:=h;exact⟨a,vs,h1,h2.monoF e,DenL.monoF e h3⟩
 | .obj c ns ds,_,h=>by
  rw[Den] at h ⊢;obtain⟨a,vs,h1,h2,h3⟩:=h;exact⟨a,vs,h1,h2.monoF e,DenL.monoF e h3⟩
 | .fn _ x,_,h=>by rw[Den] at h ⊢;exact h
theorem DenL.monoF (e:zCd H H'):∀ {ds:List D} {vs:List V},DenL K H ds vs->DenL K H' ds vs
 | [],_,h=>by rw[DenL] at h ⊢;exact h
 | d::ds,_,h=>by
  rw[DenL] at h ⊢;obtain⟨v,ws,h1,h2,h3⟩:=h;exact⟨v,ws,h1,Den.monoF e h2,DenL.monoF e h3⟩
end
theorem Den.mono (e:Same H H')(h:Den K H d v):Den K H' d v:=h.monoF λb o q _=>e b o q
theorem DenL.mono (e:Same H H')(h:DenL K H ds vs):DenL K H' ds vs:=h.monoF λb o q _=>e b o q
theorem DenL.nil:DenL K H [] []:=rfl
theorem DenL.cons (h:Den K H d v)(t:DenL K H ds vs):DenL K H (d::ds) (v::vs):=⟨v,vs,rfl,h,t⟩
theorem DenL.length:∀ {ds:List D} {vs:List V},DenL K H ds vs->ds.length=vs.length
 | [],_,h=>by rw[DenL] at h;rw[h];rfl
 | _::ds,_,h=>by
  rw[DenL] at h;obtain⟨v,ws,h1,h2,h3⟩:=h;rw[h1,x9,x9,DenL.length h3]
theorem DenL.get:∀ {ds:List D} {vs:List V} {i:Nat} {d:D},DenL K H ds vs->ds[i]?=some d->∃ v,vs[i]?=some v/\Den K H d v
 | [],_,_,_,_,e=>by simp at e
 | x::ds,_,i,d,h,e=>by
  rw[DenL] at h;obtain⟨v,ws,h1,h2,h3⟩:=h;subst h1;cases i with
  | zero=>simp at e;subst e;exact⟨v,by simp,h2⟩
  | succ i =>
   obtain⟨u,a,b⟩:=DenL.get (i:=i) (d:=d) h3 (by simpa using e);exact⟨u,by simpa using a,b⟩
theorem DenL.of_get:∀ {ds:List D} {vs:List V},ds.length=vs.length->(∀ (i:Nat) d v,ds[i]?=some d->vs[i]?=some v->Den K H d v)->DenL K H ds vs
 | [],[],_,_=>.nil
 | [],_::_,e,_=>by simp at e
 | _::_,[],e,_=>by simp at e
 | d::ds,v::vs,e,h=>.cons (h 0 d v (by simp) (by simp)) (DenL.of_get (by simpa using e) λi d' v' q1 q2=>h (i+1) d' v' (by simpa using q1) (by simpa using q2))
theorem DenL.append:∀ {ds es:List D} {vs ws:List V},DenL K H ds vs->DenL K H es ws->DenL K H (ds++es) (vs++ws)
 | [],_,_,_,h,t=>by rw[DenL] at h;subst h;exact t
 | _::ds,_,_,_,h,t=>by
  rw[DenL] at h;obtain⟨v,ws,h1,h2,h3⟩:=h;subst h1;exact .cons h2 (DenL.append h3 t)
theorem DenL.take:∀ {ds:List D} {vs:List V} (n:Nat),DenL K H ds vs->DenL K H (ds.take n) (vs.take n)
 | _,_,0,_=>by rw[List.take_zero,List.take_zero];exact .nil
 | [],_,n+1,h=>by rw[DenL] at h;subst h;exact .nil
 | _::ds,_,n+1,h=>by
  rw[DenL] at h;obtain⟨v,ws,h1,h2,h3⟩:=h;subst h1;rw[List.take_succ_cons,List.take_succ_cons];exact .cons h2 (DenL.take n h3)
theorem DenL.drop:∀ {ds:List D} {vs:List V} (n:Nat),DenL K H ds vs->DenL K H (ds.drop n) (vs.drop n)
 | _,_,0,h=>h
 | [],_,n+1,h=>by rw[DenL] at h;subst h;exact .nil
 | _::ds,_,n+1,h=>by
  rw[DenL] at h;obtain⟨v,ws,h1,h2,h3⟩:=h;subst h1;rw[List.drop_succ_cons,List.drop_succ_cons];exact DenL.drop n h3
theorem DenL.set (a:Den K H d v):∀ {ds:List D} {vs:List V} (n:Nat),DenL K H ds vs->DenL K H (ds.set n d) (vs.set n v)
 | [],_,n,h=>by rw[DenL] at h;subst h;exact .nil
 | _::ds,_,n,h=>by
  rw[DenL] at h;obtain⟨u,ws,h1,h2,h3⟩:=h;subst h1;cases n with
  | zero=>exact .cons a h3
  | succ n=>exact .cons h2 (DenL.set a n h3)
theorem DenL.ints:∀ ns:List Int,DenL K H (ns.map D.int) (ns.map V.int)
 | []=>.nil
 | n::ns=>.cons (by rw[Den]) (DenL.ints ns)
end
noncomputable def hide (H:Hp)(S:List Addr):Hp:=λb=>if b∈S then none else H b
section
variable {H H':Hp}{S:List Addr}{a b:Addr}{o:HO}
theorem zCK (h:b∈S):hide H S b=none:=if_pos h
theorem zAQ (h:b∉S):hide H S b=H b:=if_neg h
theorem zA5 (h:hide H S b=some o):b∉S/\H b=some o:=by
 unfold hide at h;grind
theorem zAi:Same (hide H S) H:=λ_ _ h=>(zA5 h).2
theorem zAP (e:Same H H'):Same (hide H S) (hide H' S):=λb o h=>by
 obtain⟨a,b⟩:=zA5 h;rw[zAQ a];exact e _ _ b
theorem zCD (h:∀ b∈S,b∈T):Same (hide H T) (hide H S):=λb o q=>by
 obtain⟨a,c⟩:=zA5 q;rw[zAQ λz=>a (h b z)];exact c
theorem zDj (e:Same H H')(n:H a=none):Same (hide H S) (hide H' (a::S)):=λb o q=>by
 obtain⟨c,b⟩:=zA5 q;rw[zAQ λz=>(mem_cons.mp z).elim (zAt b n) c];exact e _ _ b
theorem zBm:hide H []=H:=rfl
theorem zFH (h:a∈S):hide (upd H a o) S=hide H S:=by
 funext b;by_cases q:b∈S
 .rw [zCK q,zCK q]
 .rw [zAQ q,zAQ q,zAI λz=>q (by rw[z];exact h)]
theorem zAU (h:H p=none)(o:HO):Same H (upd H p o):=λb u q=>by rw[zAI (zAt q h)];exact q
end
inductive Kd where
 | cl | fr | dt
 deriving DecidableEq
abbrev R:=D×Kd
abbrev Dst:=List (Option (D×Bool))
def RV (K:W.Frag)(H H':Hp)(S:List Addr):R->V->Prop
 | (d,.cl),v=>Den K (hide H' S) d v
 | (d,.fr),v=>∃ a vs ds,v=.ref a/\d=.lst ds/\a∉S/\H a=none/\H' a=some (.lst vs)/\DenL K (hide H' (a::S)) ds vs
 | (d,.dt),v=>∃ a vs ds,v=.ref a/\d=.lst ds/\SqL K H' a vs/\DenL K (hide H' S) ds vs
def Rdv (K:W.Frag)(H:Hp)(S:List Addr)(d:D)(v:V):Prop :=
 Den K (hide H S) d v\/∃ a vs ds,v=.ref a/\d=.lst ds/\SqL K H a vs/\DenL K (hide H S) ds vs
section
variable {K:W.Frag}{H H1 H':Hp}{S:List Addr}{d:D}{v:V}{r:R}
theorem RV.clean (h:RV K H H' S (d,.fr) v):Den K (hide H' S) d v:=by
 obtain⟨a,b,f,rfl,rfl,c,_,e,t⟩:=h;exact⟨a,b,rfl,SqL.of (by rw[zAQ c];exact e),t.mono (zCD λb z=>qY _ z)⟩
theorem RV.den (h:RV K H H' S (d,k) v)(a:k≠.dt):Den K (hide H' S) d v:=by
 cases k with
 | cl=>exact h
 | fr=>exact h.clean
 | dt=>exact absurd rfl a
theorem RV.rd (h:RV K H H' S r v):Rdv K H' S r.1 v:=by
 obtain⟨d,k⟩:=r;cases k with
 | cl=>exact .inl h
 | fr=>exact .inl h.clean
 | dt=>exact .inr h
theorem RV.from (e:Same H H1)(h:RV K H1 H' S r v):RV K H H' S r v:=by
 obtain⟨d,k⟩:=r;cases k with
 | cl=>exact h
 | fr =>
  obtain⟨a,i,f,c,g,b,j,l⟩:=h;exact⟨a,i,f,c,g,b,e.free j,l⟩
 | dt=>exact h
theorem Rdv.mono (e:Same H H')(h:Rdv K H S d v):Rdv K H' S d v:=by
 rcases h with h | ⟨a,vs,ds,h1,h2,h3,h4⟩
 .exact .inl (h.mono (zAP e))
 .exact .inr ⟨a,vs,ds,h1,h2,e.seq h3,h4.mono (zAP e)⟩
theorem Rdv.int (h:Rdv K H S (.int i) v):v=.int i:=by
 rcases h with h | _
 .exact h
 .grind
theorem Rdv.bl (h:Rdv K H S (.bl b) v):v=.bl b:=by
 rcases h with h | _
 .exact h
 .grind
theorem Rdv.str (h:Rdv K H S (.str x) v):v=.str x:=by
 rcases h with h | _
 .exact h
 .grind
theorem Rdv.lst (h:Rdv K H S (.lst ds) v):∃ a vs,v=.ref a/\SqL K H a vs/\DenL K (hide H S) ds vs:=by
 rcases h with h | ⟨a,vs,ds',d,b,c,h4⟩
 .rw [Den] at h;obtain⟨a,vs,d,b,c⟩:=h;exact⟨a,vs,d,zAi.seq b,c⟩
 .cases b;exact⟨a,vs,d,c,h4⟩
theorem Rdv.tup (h:Rdv K H S (.tup ds) v):∃ a vs,v=.ref a/\SqT K H a vs/\DenL K (hide H S) ds vs:=by
 rcases h with h | ⟨a,vs,ds',c,b,d,h4⟩
 .rw [Den] at h;obtain⟨a,vs,c,b,d⟩:=h;exact⟨a,vs,c,Same.tupS zAi b,d⟩
 .cases b
theorem Rdv.dct (h:Rdv K H S (.dct ks) v):∃ a kvs,v=.ref a/\H a=some (.dT kvs)/\kvs.map (·.1)=ks.map pk:=by
 rcases h with h | ⟨a,vs,ds',c,b,d,h4⟩
 .rw [Den] at h;obtain⟨a,kvs,c,b,d⟩:=h;exact⟨a,kvs,c,zAi _ _ b,d⟩
 .cases b
theorem RV.int (i:Int):RV K H H' S (.int i,.cl) (.int i):=rfl
theorem RV.bl (b:Bool):RV K H H' S (.bl b,.cl) (.bl b):=rfl
end
def MuB:HO->Prop
 | .lst _=>True
 | .dT _=>True
 | _=>False
def OwnO (K:W.Frag)(H:Hp):D->HO->Prop
 | .lst ds,o=>∃ vs,o=.lst vs/\DenL K H ds vs
 | .dct ks,o=>∃ kvs,o=.dT kvs/\kvs.map (·.1)=ks.map pk
 | _,_=>False
theorem OwnO.mono {K:W.Frag}(e:Same H H')(h:OwnO K H d o):OwnO K H' d o:=by
 cases d with
 | lst g=>obtain⟨a,c,b⟩:=h;exact⟨a,c,b.mono e⟩
 | dct f=>exact h
 | non=>exact h
 | bl _=>exact h
 | int _=>exact h
 | str _=>exact h
 | tup _=>exact h
 | exc _=>exact h
 | lam _ _ _=>exact h
 | obj _ _ _=>exact h
 | fn _ _=>exact h
theorem OwnO.mu {K:W.Frag}(h:OwnO K H d o):MuB o:=by
 cases d with
 | lst c=>obtain⟨e,rfl,_⟩:=h;exact True.intro
 | dct b=>obtain⟨a,rfl,_⟩:=h;exact True.intro
 | non=>cases h
 | bl _=>cases h
 | int _=>cases h
 | str _=>cases h
 | tup _=>cases h
 | exc _=>cases h
 | lam _ _ _=>cases h
 | obj _ _ _=>cases h
 | fn _ _=>cases h
theorem OwnO.den {K:W.Frag}(h:OwnO K H d o)(e:H a=some o):Den K H d (.ref a):=by
 cases d with
 | lst g=>obtain⟨f,rfl,b⟩:=h;exact⟨a,f,rfl,SqL.of e,b⟩
 | dct i=>obtain⟨c,rfl,b⟩:=h;exact⟨a,c,rfl,e,b⟩
 | non=>cases h
 | bl _=>cases h
 | int _=>cases h
 | str _=>cases h
 | tup _=>cases h
 | exc _=>cases h
 | lam _ _ _=>cases h
 | obj _ _ _=>cases h
 | fn _ _=>cases h
def SV (K:W.Frag)(H:Hp)(S:List Addr)(d:D)(o:Bool)(v:V):Prop :=
 if o=true then ∃ a u,v=.ref a/\a∈S/\H a=some u/\OwnO K (hide H S) d u else Den K (hide H S) d v
structure DS (K:W.Frag)(H:Hp)(S:List Addr)(σ:St)(G:Dst):Prop where
 len:σ.length=G.length
 sok:∀ a∈S,∃ xs:HO,H a=some xs/\MuB xs
 get:∀ (i:Nat) d o,G[i]?=some (some (d,o))->∃ v,σ[i]?=some (some v)/\SV K H S d o v
 inj:∀ (i j:Nat) d e a,G[i]?=some (some (d,true))->G[j]?=some (some (e,true))->σ[i]?=some (some (.ref a))->σ[j]?=some (some (.ref a))->i=j
section
variable {K:W.Frag}{H H1 H':Hp}{S:List Addr}{σ:St}{G:Dst}{d:D}{v:V}{i:Nat}
theorem SV.own (h:SV K H S d o v)(b:o=true):∃ a u,v=.ref a/\a∈S/\H a=some u/\OwnO K (hide H S) d u:=by
 unfold SV at h;rw[if_pos b] at h;exact h
theorem SV.ownL (h:SV K H S (.lst ds) o v)(b:o=true):∃ a vs es,v=.ref a/\D.lst ds=.lst es/\a∈S/\H a=some (.lst vs)/\DenL K (hide H S) es vs:=by
 obtain⟨a,u,c,e,f,vs,rfl,d⟩:=h.own b;exact⟨a,vs,ds,c,rfl,e,f,d⟩
theorem SV.den (h:SV K H S d o v)(a:o=false):Den K (hide H S) d v:=by
 unfold SV at h;rw[if_neg (by simp_all)] at h;exact h
theorem SV.of_den (h:Den K (hide H S) d v):SV K H S d false v:=by assumption
theorem SV.of_own (e:a∈S)(b:H a=some u)(c:OwnO K (hide H S) d u):SV K H S d true (.ref a):=⟨a,u,rfl,e,b,c⟩
theorem SV.mono (e:Same H H')(h:SV K H S d o v):SV K H' S d o v:=by
 cases o with
 | true =>
  obtain⟨a,u,rfl,c,b,f⟩:=h.own rfl;exact .of_own c (e _ _ b) (f.mono (zAP e))
 | false=>exact .of_den ((h.den rfl).mono (zAP e))
theorem DS.mono (h:DS K H S σ G)(e:Same H H'):DS K H' S σ G :=
 ⟨h.len,λa z=>let ⟨xs,q,mu⟩:=h.sok a z;⟨xs,e _ _ q,mu⟩,λi d o z=>let ⟨v,q1,q2⟩:=h.get i d o z;⟨v,q1,q2.mono e⟩,h.inj⟩
theorem zBL {O:Type}{l:List O}{i:Nat}{x:O}(h:i < l.length):(l.set i x)[i]?=some x:=by simp[h]
theorem zCE {O:Type}{l:List O}{i j:Nat}{x:O}(h:i≠j):(l.set i x)[j]?=l[j]?:=by simp_all
theorem zAS {O:Type}{l:List O}{i j:Nat}{x y:O}(h:(l.set i x)[j]?=some y):(i=j/\y=x/\i < l.length)\/(i≠j/\l[j]?=some y):=by
 by_cases e:i=j
 .subst e;by_cases q:i < l.length
  .simp_all
  .simp_all
 .simp_all
theorem DS.set (h:DS K H S σ G)(l:Den K (hide H S) d v):DS K H S (σ.set i (some v)) (G.set i (some (d,false))):=by
 refine⟨by rw[length_set,length_set];exact h.len,h.sok,λj e o q=>?_,λj k e f a n m b g=>?_⟩
 .rcases zAS q with ⟨rfl,z,c⟩ | ⟨ne,z⟩
  .cases z;exact⟨v,zBL (by rw[h.len];exact c),.of_den l⟩
  .obtain _:=h.get j e o z
   simp_all
 .rcases zAS n with ⟨_,z,_⟩ | ⟨ne1,z1⟩
  .grind
  .rcases zAS m with ⟨_,z,_⟩ | ⟨ne2,z2⟩
   .cases z
   .rw [zCE ne1] at b
    simp_all
    exact h.inj j k e f a z1 z2 b g
theorem DS.setG (h:DS K H S σ G)(e:Same H H')(n:H a=none)(F:H' a=some u)(t:OwnO K (hide H' (a::S)) d u) :
  DS K H' (a::S) (σ.set i (some (.ref a))) (G.set i (some (d,true))):=by
 refine⟨by rw[length_set,length_set];exact h.len,λb z=>?_,λj r o q=>?_,λj k r f b s c l g=>?_⟩
 .rcases mem_cons.mp z with rfl | z
  .exact ⟨_,F,t.mu⟩
  .obtain ⟨J,q,mu⟩:=h.sok b z;exact⟨J,e _ _ q,mu⟩
 .rcases zAS q with ⟨rfl,z,M⟩ | ⟨N,z⟩
  .cases z;exact⟨.ref a,zBL (by rw[h.len];exact M),.of_own xy F t⟩
  .obtain ⟨u,s,c⟩:=h.get j r o z
   simp_all
   cases o with
   | true =>
    obtain⟨b,w,rfl,A,B,L⟩:=c.own rfl;exact .of_own (qY _ A) (e _ _ B) (L.mono (zDj e n))
   | false=>exact .of_den ((c.den rfl).mono (zDj e n))
 .have p:∀ {j:Nat} {x:D},i≠j->G[j]?=some (some (x,true))->σ[j]?=some (some (.ref a))->False:=λ{j x} N z q=>by
   obtain⟨u,s,c⟩:=h.get j x true z;obtain⟨b,w,rfl,A,B,_⟩:=c.own rfl;grind
  rcases zAS s with ⟨C,y,I⟩ | ⟨ne1,y⟩
  .rcases zAS c with ⟨v,m,E⟩ | ⟨ne2,m⟩
   .exact C.symm.trans v
   .rw [<- C,zBL (by rw[h.len];exact I)] at l;cases l;rw[zCE ne2] at g;exact(p ne2 m g).elim
  .rcases zAS c with ⟨v,m,E⟩ | ⟨ne2,m⟩
   .rw [<- v,zBL (by rw[h.len];exact E)] at g;cases g;rw[zCE ne1] at l;exact(p ne1 y l).elim
   .rw [zCE ne1] at l;rw[zCE ne2] at g;exact h.inj j k r f b y m l g
theorem DS.setF (h:DS K H S σ G)(e:Same H H')(n:H a=none)(b:H' a=some (.lst vs))(t:DenL K (hide H' (a::S)) ds vs) :
  DS K H' (a::S) (σ.set i (some (.ref a))) (G.set i (some (.lst ds,true))):=h.setG e n b ⟨vs,rfl,t⟩
theorem DS.changeG (h:DS K H S σ G)(m:G[i]?=some (some (d,true)))(n:σ[i]?=some (some (.ref a)))(t:OwnO K (hide H S) e0 u) :
  DS K (upd H a u) S σ (G.set i (some (e0,true))):=by
 obtain⟨w,g,e⟩:=h.get i _ true m;obtain⟨b,P,l,v,M,_⟩:=e.own rfl;subst l;rw[n] at g;cases g;have s:hide (upd H a u) S=hide H S:=zFH v;refine⟨by rw[length_set];exact h.len,λb z=>?_,λj A o q=>?_,λj k A f b g e I L=>?_⟩
 .by_cases q:b=a
  .subst q;exact⟨_,zAJ,t.mu⟩
  .rw [zAI q];exact h.sok b z
 .rcases zAS q with ⟨rfl,z,N⟩ | ⟨ne,z⟩
  .cases z;exact⟨.ref a,n,.of_own v zAJ (by rw[s];exact t)⟩
  .obtain ⟨w,g,e⟩:=h.get j A o z
   simp_all
   cases o with
   | true =>
    obtain⟨b,C,rfl,E,p,O⟩:=e.own rfl;exact .of_own E (by rw[zAI (λz2=>by subst z2;exact ne (h.inj i j _ _ b m z n g))];exact p) (by simp_all)
   | false=>exact .of_den (by rw[s];exact e.den rfl)
 .have c:∀ {j:Nat} {x:D},(G.set i (some (e0,true)))[j]?=some (some (x,true))->∃ y,G[j]?=some (some (y,true)):=λ{j x} z=>by
   rcases zAS z with ⟨l,_,_⟩ | ⟨_,z⟩
   .rw [<- l];exact⟨_,m⟩
   .exact ⟨_,z⟩
  obtain⟨B,J⟩:=c g;obtain⟨F,z2⟩:=c e;exact h.inj j k B F b J z2 I L
theorem DS.change (h:DS K H S σ G)(b:G[i]?=some (some (.lst ds,true)))(c:σ[i]?=some (some (.ref a)))(t:DenL K (hide H S) es vs) :
  DS K (upd H a (.lst vs)) S σ (G.set i (some (.lst es,true))):=h.changeG b c ⟨vs,rfl,t⟩
theorem DS.freeze (h:DS K H S σ G)(p:G[i]?=some (some (d,true))):∃ S',(∀ b∈S',b∈S)/\DS K H S' σ (G.set i (some (d,false))):=by
 obtain⟨u,s,v⟩:=h.get i _ true p;obtain⟨a,w,rfl,F,A,D⟩:=v.own rfl;have sub:∀ b∈S.filter (λb=>decide (b≠a)),b∈S:=λb z=>(mem_filter.mp z).1
 refine⟨S.filter _,sub,?_⟩;have e:Same (hide H S) _:=zCD sub;refine⟨by rw[length_set];exact h.len,λb z=>h.sok b (sub b z),λj m o q=>?_,λj k m f b n z2 B y=>?_⟩
 .rcases zAS q with ⟨rfl,z,E⟩ | ⟨ne,z⟩
  .cases z;exact⟨.ref a,s,.of_den ((D.mono e).den (by rw[zAQ (λz=>by simpa using (mem_filter.mp z).2)];exact A))⟩
  .obtain ⟨u,t,r⟩:=h.get j m o z;refine⟨u,t,?_⟩;cases o with
   | true =>
    obtain⟨b,C,rfl,x,g,l⟩:=r.own rfl;exact .of_own (mem_filter.mpr ⟨x,by simpa using (λz2=>by subst z2;exact ne (h.inj i j _ _ b p z s t))⟩) g (l.mono e)
   | false=>exact .of_den ((r.den rfl).mono e)
 .rcases zAS n with ⟨_,z,_⟩ | ⟨_,n⟩
  .cases z
  .rcases zAS z2 with ⟨_,z,_⟩ | ⟨_,z2⟩
   .cases z
   .exact h.inj j k m f b n z2 B y
end
end DL
end
section
namespace DL
open PySem Spec PyProof.Rows L2
def gT (K:W.Frag)(f:Dst->Option R):TE:=fun σ H Q=>∃ S G r,DS K H S σ G/\f G=some r/\∀ v H',Same H H'->RV K H H' S r v->Q v H'
def gB (K:W.Frag)(f:Dst->Option Bool):TT:=fun σ H Q=>∃ S G b,DS K H S σ G/\f G=some b/\∀ H',Same H H'->Q b H'
def gA (K:W.Frag)(f:Dst->Option (List D)):TA:=fun σ H Q=>∃ S G ds,DS K H S σ G/\f G=some ds/\∀ vs H',Same H H'->DenL K (hide H' S) ds vs->Q vs H'
def GE (X:Cx)(e:Expr)(f:Dst->Option R):Prop:=PE X e (gT X.K f)
def GT (X:Cx)(e:Expr)(f:Dst->Option Bool):Prop:=PT X e (gB X.K f)
def GA (X:Cx)(es:List Expr)(f:Dst->Option (List D)):Prop:=PA X es (gA X.K f)
theorem _root_.L2.PE.imp (h:PE X e t)(i:∀ σ H Q,t' σ H Q->t σ H Q):PE X e t':=λpins s σ H Q I q=>h pins s σ H Q I (i σ H Q q)
theorem _root_.L2.PT.imp (h:PT X e t)(i:∀ σ H Q,t' σ H Q->t σ H Q):PT X e t':=λpins s σ H Q I q=>h pins s σ H Q I (i σ H Q q)
theorem _root_.L2.PA.imp (h:PA X e t)(i:∀ σ H Q,t' σ H Q->t σ H Q):PA X e t':=λpos pins s σ H Q I q=>h pos pins s σ H Q I (i σ H Q q)
theorem bind_some {O T:Type}{o:Option O}{f:O->Option T}{b:T}(h:(o.bind f)=some b):∃ a,o=some a/\f a=some b:=by
 cases o with
 | none=>cases h
 | some a=>exact⟨a,rfl,h⟩
section
variable {X:Cx}
def OpD (K:W.Frag)(r:R2)(o:D->D->Option R):Prop :=
 ∀ (S:List Addr) (H:Hp) (x y:D) (z:R) (vx vy:V) (Q:VK),(∀ a∈S,∃ xs:HO,H a=some xs/\MuB xs)->o x y=some z->Rdv K H S x vx->Rdv K H S y vy->(∀ v H',Same H H'->RV K H H' S z v->Q v H')->r vx vy H Q
noncomputable def two (f g:Dst->Option R)(o:D->D->Option R):Dst->Option R:=λG=>(f G).bind λx=>(g G).bind λy=>o x.1 y.1
theorem zHJ (h:OpD X.K r o){σ:St}(q:gT X.K (two f g o) σ H Q):tOp r (gT X.K f) (gT X.K g) σ H Q:=by
 obtain⟨S,G,z,d,e,c⟩:=q;obtain⟨x,j,e⟩:=bind_some e;obtain⟨y,i,e⟩:=bind_some e;refine⟨S,G,x,d,j,λvx s a r1=>⟨S,G,y,d.mono a,i,λvy k b r2=>?_⟩⟩;exact h S k x.1 y.1 z vx vy Q (d.mono (a.trans b)).sok e (r1.rd.mono b) r2.rd λv m l r3=>c v m (a.trans (b.trans l)) (r3.from (a.trans b))
theorem zIM (c:OpR X (binaryOp op) r)(h:OpD X.K r o)(e:GE X a f)(d:GE X b g):GE X (.BinOp a op b pos) (two f g o) :=
 (zSo c e d).imp λ_ _ _ q=>zHJ h q
noncomputable def asB (f:Dst->Option R):Dst->Option Bool:=λG=>match f G with
 | some (.bl b,_)=>some b
 | _=>none
theorem zCR (h:asB f G=some b):∃ k,f G=some (.bl b,k):=by
 unfold asB at h;split at h
 .simp_all
 .cases h
theorem zGt {σ:St}(q:gB X.K (asB f) σ H Q):gT X.K f σ H λx H'=>∃ k,x=.bl k/\Q k H':=by
 obtain⟨S,G,b,a,e,c⟩:=q;obtain⟨k,e⟩:=zCR e;refine⟨S,G,_,a,e,λv H' d r1=>⟨b,r1.rd.bl,c H' d⟩⟩
theorem zJx (h:GE X e f)(a:∀ whole,isTrue e X.env whole=(do let v<-whole;standAt e.pos;holding [v] (truthy v))):GT X e (asB f) :=
 (zM4 h a).imp λ_ _ _ q=>zGt q
noncomputable def lstB:D->Bool
 | .lst _=>true
 | _=>false
noncomputable def varD (i:Nat):Dst->Option R:=λG=>match G[i]? with
 | some (some (d,o))=>if o=true then (if lstB d=true then some (d,.dt) else none) else some (d,.cl)
 | _=>none
theorem zHZ (k:X.N[i]?=some x)(j:Vis X.env.scope x)(h:(x==("__debug__":Str))=false)(b:(x==("__classdict__":Str))=false) :
  GE X (.Name x pos) (varD i):=by
 refine(zDR k j h b).imp fun σ H Q q=>?_
 obtain⟨S,G,z,l,e,c⟩:=q;unfold varD at e;split at e
 .rename_i d o q;obtain⟨v,f,g⟩:=l.get i d o q;cases o with
  | false =>
   cases e;exact⟨v,f,c v H (Same.refl _) (g.den rfl)⟩
  | true =>
   rw[if_pos rfl] at e;cases d with
   | lst s =>
    cases e;refine⟨v,f,c v H (Same.refl _) ?_⟩;obtain⟨a,r,es,rfl,p,_,n,m⟩:=g.ownL rfl;exact⟨a,r,es,rfl,p,SqL.of n,m⟩
   | _=>cases e
 .cases e
theorem zDk (h:PE X e (tC v))(a:∀ K H,Den K H d v):GE X e (λ_=>some (d,.cl)) :=
 h.imp fun σ H Q zz39=>by
  obtain⟨S,G,z,b,e,c⟩:=zz39;cases e;exact c v H (Same.refl _) (a _ _)
theorem ge_int {j pos}:GE X (.Constant (.int i) j pos) (λ_=>some (.int i,.cl)):=zDk (λ_ _ _ H _ I h=>wpAny_Constant_int ⟨.int i,H,I.tok _,⟨_,rfl⟩,h⟩) λ_ _=>by rw[Den]
theorem zS9 {j pos}:GE X (.Constant (.bool b) j pos) (λ_=>some (.bl b,.cl)):=zDk (λ_ _ _ H _ I h=>Constant_bool ⟨.bl b,H,I,rfl,h⟩) λ_ _=>by rw[Den]
theorem zRl {j pos}:GE X (.Constant .none j pos) (λ_=>some (.non,.cl)):=zDk (λ_ _ _ H _ I h=>Constant_none ⟨.non,H,I,rfl,h⟩) λ_ _=>by rw[Den]
theorem zGB {j pos}:GE X (.Constant (.str x) j pos) (λ_=>some (.str x,.cl)):=zDk (λ_ _ _ H _ I h=>Calls.Constant_str ⟨.str x,H,I.tok _,⟨_,rfl⟩,h⟩) λ_ _=>by rw[Den]
theorem zPO (f:Gl X x)(g:X.mg x=some u)(r:RelV v u)(b:Den X.K (λ_=>none) d v)(a:(x==("__debug__":Str))=false):GE X (.Name x pos) (λ_=>some (d,.cl)) :=
 (zI7 f g r a).imp fun σ H Q zz40=>by
  obtain⟨S,G,z,h,e,c⟩:=zz40;cases e;exact c v H (Same.refl _) (b.mono λb o q=>by cases q)
theorem zGe {g:Int->Int->Int}(h:∀ x y z,o x y=some z->∃ i j,x=.int i/\y=.int j/\C i j/\z=(.int (g i j),.cl)):OpD X.K (rI C λi j=>.int (g i j)) o:=by
 intro S H x y z f k Q _ e d a c;obtain⟨i,j,rfl,rfl,b,rfl⟩:=h x y z e;exact⟨i,j,d.int,a.int,b,c _ H (Same.refl _) (.int _)⟩
theorem zLd {g:Int->Int->Int}(h:∀ x y z,o x y=some z->∃ i j,x=.int i/\y=.int j/\z=(.int (g i j),.cl)):OpD X.K (rI0 λi j=>.int (g i j)) o:=by
 intro S H x y z d f Q _ e a b c;obtain⟨i,j,rfl,rfl,rfl⟩:=h x y z e;exact⟨i,j,a.int,b.int,c _ H (Same.refl _) (.int _)⟩
theorem zBb {g:Int->Int->Bool}(h:∀ x y z,o x y=some z->∃ i j,x=.int i/\y=.int j/\z=(.bl (g i j),.cl)):OpD X.K (rI0 λi j=>.bl (g i j)) o:=by
 intro S H x y z f d Q _ e a b c;obtain⟨i,j,rfl,rfl,rfl⟩:=h x y z e;exact⟨i,j,a.int,b.int,c _ H (Same.refl _) (.bl _)⟩
theorem zOU:OpR X (binaryOp .Mult) (rI IntMulOk λi j=>.int (i*j)):=opI λ_ _ _ _ _ _ _ a q=>mul_int q a
def zTK (_ j:Int):Prop:=j≠0
theorem zLe:OpR X (binaryOp .FloorDiv) (rI zTK λi j=>.int (i.fdiv j)):=by
 intro a s σ H x y v u Q I f b h;obtain⟨i,j,rfl,rfl,g,q⟩:=h;obtain⟨t,rfl⟩:=f;obtain⟨r,rfl⟩:=b;exact floordiv_int g ⟨.int (i.fdiv j),H,I.tok _,⟨_,rfl⟩,q⟩ (.inr ((by obtain⟨d,o,e,l,k,c,n,m,p⟩:=I.ok.pyl;exact PylongRoom.of I.nolimit d (SeerAt.of (I.mod.seer.keeps I.bk) o (by rw[I.ok.frames,k]) c n m p))))
theorem zFz (l:Addr)(items:Array Value)(n:Nat)(dd:Option Addr)(sl:Array (Option Value))(b:Addr)(a:Array Value)(e:Nat)(d:Option Addr)(c:Array (Option Value))(g:items.size+a.size<=sizeLine) :
  Meets (Builtin.«list.__add__» ⟨[.ref l,.ref b],[]⟩) (λ_ R s=>s.heap.get? l=some { cls:=.type "list",dict:=dd,data:=.seq items n,slots:=sl }/\s.heap.get? b=some { cls:=.type "list",dict:=d,data:=.seq a e,slots:=c }/\R (.ok (.ret (Value.ref s.heap.objs.size))) { s with heap:=s.heap.push { cls:=Value.type "list",data:=Data.seq (items++a) },toks:=s.toks }) :=
 .of_wp λprog w A R s h=>by obtain _:=s;obtain⟨f,i,h⟩:=h;have j:=AutoSeq1.sub_list_list;wp_walk using AutoSeq1.wpAny_loadPart' f,AutoSeq1.wpAny_loadPart' i;exact⟨_,rfl,h⟩
end
mutual
noncomputable def toPy:D->PyData
 | .non=>.none
 | .bl b=>.bool b
 | .int i=>.int i
 | .str x=>.str x
 | .tup ds=>.tuple (toPyL ds)
 | .lst ds=>.list (toPyL ds)
 | .exc _=>.str ⟨#[1114112]⟩
 | .dct _=>.str ⟨#[1114112]⟩
 | .lam _ _ _=>.str ⟨#[1114112]⟩
 | .obj _ _ _=>.str ⟨#[1114112]⟩
 | .fn _ _=>.str ⟨#[1114112]⟩
noncomputable def toPyL:List D->List PyData
 | []=>[]
 | d::ds=>toPy d::toPyL ds
end
theorem Rdv.whole {K:W.Frag}(h:Rdv K H S d v):Den K H d v:=by
 rcases h with h | ⟨a,vs,ds,rfl,rfl,h1,h2⟩
 .exact h.mono zAi
 .exact ⟨a,vs,rfl,h1,h2.mono zAi⟩
section
variable {X:Cx}{pins:List (Addr×Obj)}{σ:St}{H:Hp}{s:Shared}
mutual
theorem zCz (I:Inv X pins σ H s):∀ {d:D} {v:V} {u:Value},Den X.K H d v->RelV v u->(toPy d).canLay0=true->∃ as,Reads s.heap u (toPy d) as
 | .non,_,_,h,r,_=>by rw[Den] at h;subst h;cases r;rw[toPy];exact⟨_,.none⟩
 | .bl b,_,_,h,r,_=>by rw[Den] at h;subst h;cases r;rw[toPy];exact⟨_,.bool b⟩
 | .int i,_,_,h,r,_=>by rw[Den] at h;subst h;obtain⟨t,rfl⟩:=r;rw[toPy];exact⟨_,.int i t⟩
 | .str x,_,_,h,r,_=>by rw[Den] at h;subst h;obtain⟨t,rfl⟩:=r;rw[toPy];exact⟨_,.str x t⟩
 | .tup ds,_,_,h,r,cl=>by
  rw[toPy,PyData.canLay0] at cl;rw[Den] at h;obtain⟨a,vs,rfl,h1,h2⟩:=h;cases r;obtain⟨its,rv,⟨o,e1,e2,n,e3⟩,_⟩:=I.tuple h1;obtain⟨as,q⟩:=readsL_of I h2 rv cl;rw[toPy];exact⟨_,.tuple e1 e2 e3 q⟩
 | .exc c,_,_,h,r,cl=>by rw[toPy,PyData.canLay0] at cl;exact absurd cl (by decide +kernel)
 | .dct c,_,_,h,r,cl=>by rw[toPy,PyData.canLay0] at cl;exact absurd cl (by decide +kernel)
 | .lam _ _ _,_,_,h,r,cl=>by rw[toPy,PyData.canLay0] at cl;exact absurd cl (by decide +kernel)
 | .obj _ _ _,_,_,h,r,cl=>by rw[toPy,PyData.canLay0] at cl;exact absurd cl (by decide +kernel)
 | .fn _ _,_,_,h,r,cl=>by rw[toPy,PyData.canLay0] at cl;exact absurd cl (by decide +kernel)
 | .lst ds,_,_,h,r,cl=>by
  rw[toPy,PyData.canLay0] at cl;rw[Den] at h;obtain⟨a,vs,rfl,h1,h2⟩:=h;cases r;obtain⟨its,rv,⟨o,n,e1,e2,_,e3⟩,_⟩:=I.list h1;obtain⟨as,q⟩:=readsL_of I h2 rv cl;rw[toPy];exact⟨_,.list e1 e2 e3 q⟩
theorem readsL_of (I:Inv X pins σ H s):∀ {ds:List D} {vs:List V} {us:List Value},DenL X.K H ds vs->Vals vs us->PyData.canLayAll0 (toPyL ds)=true->∃ as,ReadsAll s.heap us (toPyL ds) as
 | [],_,_,h,r,_=>by rw[DenL] at h;subst h;cases r;rw[toPyL];exact⟨_,.nil⟩
 | d::ds,_,_,h,r,cl=>by
  rw[toPyL,PyData.canLayAll0,yx] at cl;rw[DenL] at h;obtain⟨v,ws,rfl,h1,h2⟩:=h;cases r with
  | cons r1 r2 =>
   obtain⟨a1,q1⟩:=zCz I h1 r1 cl.1;obtain⟨a2,q2⟩:=readsL_of I h2 r2 cl.2;rw[toPyL];exact⟨_,.cons q1 q2⟩
end
end
def EqOk (x y:D):Prop:=(toPy x).canLay0=true/\(toPy y).canLay0=true/\(toPy x).depth<=64
noncomputable instance (x y:D):Decidable (EqOk x y):=by unfold EqOk;exact inferInstance
noncomputable def eqb (x y:D):Bool:=PyData.eqv (toPy x) (toPy y)
def rEqD (K:W.Frag)(f:Bool->Bool):R2:=λvx vy H Q=>∃ x y,Den K H x vx/\Den K H y vy/\EqOk x y/\Q (.bl (f (eqb x y))) H
section
variable {X:Cx}
def eqD (f:Bool->Bool)(x y:D):Option R:=if EqOk x y then some (.bl (f (eqb x y)),.cl) else none
theorem zNE :OpD X.K (rEqD X.K f) (eqD f):=by
 intro S H x y z d g Q _ e a b c;unfold eqD at e;by_cases ok:EqOk x y
 .rw [if_pos ok] at e;cases e;exact⟨x,y,a.whole,b.whole,ok,c _ H (Same.refl _) (.bl _)⟩
 .simp_all
noncomputable def nonB:D->Bool
 | .non=>true
 | _=>false
noncomputable def isN (f:Bool->Bool)(x y:D):Option R:=match y with
 | .non=>some (.bl (f (nonB x)),.cl)
 | _=>none
theorem zKk {K:W.Frag}(h:Den K H x v):decide (v=.non)=nonB x:=by
 cases x with
 | non=>rw[Den] at h;subst h;rfl
 | bl b=>rw[Den] at h;subst h;rfl
 | int i=>rw[Den] at h;subst h;rfl
 | str i=>rw[Den] at h;subst h;rfl
 | tup e=>rw[Den] at h;obtain⟨a,d,rfl,_⟩:=h;rfl
 | lst e=>rw[Den] at h;obtain⟨a,d,rfl,_⟩:=h;rfl
 | exc c=>rw[Den] at h;obtain⟨a,o,u,C,rfl,_⟩:=h;rfl
 | dct c=>rw[Den] at h;obtain⟨a,f,rfl,_⟩:=h;rfl
 | lam _ _ _=>rw[Den] at h;obtain⟨a,d,rfl,_⟩:=h;rfl
 | obj _ _ _=>rw[Den] at h;obtain⟨a,d,rfl,_⟩:=h;rfl
 | fn _ _=>rw[Den] at h;obtain⟨a,rfl,_⟩:=h;rfl
theorem zOQ:OpD X.K (λx y H Q=>y=.non/\Q (.bl (decide (x=.non))) H) (isN id):=by
 intro S H x y z d f Q _ e a b c;cases y with
 | non =>
  cases e;exact⟨b.whole,by rw[zKk a.whole];exact c _ H (Same.refl _) (.bl _)⟩
 | _=>cases e
theorem zLc:OpD X.K (λx y H Q=>y=.non/\Q (.bl (!decide (x=.non))) H) (isN (λb=>!b)):=by
 intro S H x y z f d Q _ e a b c;cases y with
 | non =>
  cases e;exact⟨b.whole,by rw[zKk a.whole];exact c _ H (Same.refl _) (.bl _)⟩
 | _=>cases e
theorem DenL.atI {K:W.Frag}(h:DenL K H ds vs)(e:atI ds i=some d):∃ v,L2.atI vs i=some v/\Den K H d v:=by
 unfold L2.atI at e ⊢;obtain⟨j,e1,e2⟩:=bind_some e;obtain⟨v,q1,q2⟩:=h.get e2;refine⟨v,?_,q2⟩;rw[<- h.length,e1];exact q1
noncomputable def ixD (x y:D):Option R:=match x,y with
 | .lst ds,.int i=>(atI ds i).map λd=>(d,.cl)
 | .tup ds,.int i=>(atI ds i).map λd=>(d,.cl)
 | _,_=>none
theorem zQh:OpD X.K (λx y H Q=>rIxL X.K x y H Q\/rIxT X.K x y H Q) ixD:=by
 intro S H x y z p o Q _ e m l c;unfold ixD at e;split at e
 .rename_i n i;obtain⟨d,h,rfl⟩:=yj.mp e;obtain⟨a,b,rfl,g,j⟩:=m.lst;obtain⟨v,k,f⟩:=j.atI h;exact .inl ⟨a,b,i,v,rfl,l.int,g,k,c v H (Same.refl _) f⟩
 .rename_i n i;obtain⟨d,h,rfl⟩:=yj.mp e;obtain⟨a,b,rfl,g,j⟩:=m.tup;obtain⟨v,k,f⟩:=j.atI h;exact .inr ⟨a,b,i,v,rfl,l.int,g,k,c v H (Same.refl _) f⟩
 .cases e
theorem zPN (e:GE X a f)(d:GE X b g)(c:zFW b):GE X (.Subscript a b pos) (two f g ixD) :=
 (zQd (zJm.or zC3) e d c).imp λ_ _ _ q=>zHJ zQh q
theorem zKB:GA X [] (λ_=>some []):=zAs.imp fun σ H Q zz41=>by
 obtain⟨S,G,z,a,e,c⟩:=zz41;cases e;exact c [] H (Same.refl _) .nil
noncomputable def zFO (f:Dst->Option R)(g:Dst->Option (List D)):Dst->Option (List D):=λG=>(f G).bind λx=>if x.2=.dt then none else (g G).bind λxs=>some (x.1::xs)
theorem zD6 (o:GE X e f)(m:GA X es g)(l:starEach (e::es) X.env=(false,eval e X.env)::starEach es X.env):GA X (e::es) (zFO f g):=by
 refine(zAR o m l).imp fun σ H Q zz42=>?_
 obtain⟨S,G,z,b,e,c⟩:=zz42;obtain⟨x,n,e⟩:=bind_some e;by_cases hx:x.2=.dt
 .simp_all
 simp_all
 obtain⟨i,a,e⟩:=bind_some e;cases e;refine⟨S,G,x,b,n,λv p d r1=>⟨S,G,i,b.mono d,a,λvs j h r2=>?_⟩⟩;exact c _ j (d.trans h) (.cons ((RV.den (k:=x.2) r1 hx).mono (zAP h)) r2)
noncomputable def tupD (g:Dst->Option (List D)):Dst->Option R:=λG=>(g G).bind λxs=>if xs.length<=10000 then some (.tup xs,.cl) else none
noncomputable def lstD (g:Dst->Option (List D)):Dst->Option R:=λG=>(g G).bind λxs=>if xs.length<=10000 then some (.lst xs,.fr) else none
theorem zCy (h:n<=10000):n<=sizeLine:=le_trans h (by decide)
theorem notS {H:Hp}{S:List Addr}(h:∀ a∈S,∃ xs:HO,H a=some xs/\MuB xs)(n:H p=none):p∉S:=by grind
theorem RV.tupNew {K:W.Frag}(hS:∀ a∈S,∃ xs:HO,H1 a=some xs/\MuB xs)(n:H1 p=none)(t:DenL K (hide H1 S) ds vs):RV K H (upd H1 p (.tup vs)) S (.tup ds,.cl) (.ref p):=⟨p,vs,rfl,SqT.of (by rw[zAQ (notS hS n)];exact zAJ),t.mono (zAP (zAU n _))⟩
theorem RV.lstNew {K:W.Frag}(e:Same H H1)(hS:∀ a∈S,∃ xs:HO,H1 a=some xs/\MuB xs)(n:H1 p=none)(t:DenL K (hide H1 S) ds vs):RV K H (upd H1 p (.lst vs)) S (.lst ds,.fr) (.ref p) :=
 ⟨p,vs,ds,rfl,rfl,notS hS n,e.free n,zAJ,t.mono (zDj (zAU n _) n)⟩
theorem zRk {x1}(h:GA X es g):GE X (.Tuple es x1 pos) (tupD g):=by
 refine(zI6 h).imp fun σ H Q zz43=>?_
 obtain⟨S,G,z,b,e,c⟩:=zz43;obtain⟨f,a,e⟩:=bind_some e;by_cases hx:f.length<=10000
 .rw [if_pos hx] at e;cases e;refine⟨S,G,f,b,a,λvs i d r1=>⟨by rw[<- r1.length];exact zCy hx,λp n=>?_⟩⟩;exact c _ _ (d.trans (zAU n _)) (.tupNew (b.mono d).sok n r1)
 .simp_all
theorem zJ8 (h:GA X es g):GE X (.List es pos) (lstD g):=by
 refine(zNB h).imp fun σ H Q zz44=>?_
 obtain⟨S,G,z,f,e,c⟩:=zz44;obtain⟨d,a,e⟩:=bind_some e;by_cases hx:d.length<=10000
 .rw [if_pos hx] at e;cases e;refine⟨S,G,d,f,a,λvs i b r1=>⟨by rw[<- r1.length];exact zCy hx,λp n=>?_⟩⟩;exact c _ _ (b.trans (zAU n _)) (.lstNew b (f.mono b).sok n r1)
 .simp_all
end
section
variable {X:Cx}
noncomputable def notD (f:Dst->Option R):Dst->Option R:=λG=>(asB f G).bind λb=>some (.bl (!b),.cl)
theorem zKC {σ:St}(ds:DS X.K H S σ G)(e:asB f G=some b)(c:∀ H',Same H H'->Q (.bl b) H'):gT X.K f σ H Q:=by
 obtain⟨k,e⟩:=zCR e;exact⟨S,G,_,ds,e,λv H' s1 r1=>by rw[r1.rd.bl];exact c H' s1⟩
theorem zPv (h:asB (notD f) G=some b):asB f G=some (!b):=by
 obtain⟨k,e⟩:=zCR h;obtain⟨c,a,e⟩:=bind_some e
 simp_all
theorem zRP (h:GT X a (asB f)):GT X (.UnaryOp .Not a pos) (asB (notD f)) :=
 (zM5 h).imp fun σ H Q zy153=>by obtain⟨S,G,b,g,e,c⟩:=zy153;exact⟨S,G,!b,g,zPv e,λH' i=>by show Q (!!b) H';rw[Bool.not_not];exact c H' i⟩
noncomputable def andD (f g:Dst->Option R):Dst->Option R:=λG=>(asB f G).bind λb=>if b=true then g G else some (.bl false,.cl)
noncomputable def orD (f g:Dst->Option R):Dst->Option R:=λG=>(asB f G).bind λb=>if b=true then some (.bl true,.cl) else g G
theorem zRu (j:GE X a f)(m:GE X (.BoolOp .And (b::rest) pos) g):GE X (.BoolOp .And (a::b::rest) pos) (andD f g):=by
 refine(zQf j m).imp fun σ H Q zz45=>?_
 obtain⟨S,G,z,h,e,c⟩:=zz45;obtain⟨b,i,e⟩:=bind_some e;refine zKC h i λH1 d=>⟨b,rfl,?_⟩
 cases b with
 | true =>
  rw[if_pos rfl] at e ⊢;exact⟨S,G,z,h.mono d,e,λv k l r2=>c v k (d.trans l) (r2.from d)⟩
 | false =>
  rw[if_neg qX] at e ⊢;cases e;exact c _ H1 d (.bl _)
theorem zS6 (k:GE X a f)(i:GE X (.BoolOp .Or (b::rest) pos) g):GE X (.BoolOp .Or (a::b::rest) pos) (orD f g):=by
 refine(zQb k i).imp fun σ H Q zz46=>?_
 obtain⟨S,G,z,h,e,c⟩:=zz46;obtain⟨b,m,e⟩:=bind_some e;refine zKC h m λH1 d=>⟨b,rfl,?_⟩
 cases b with
 | true =>
  rw[if_pos rfl] at e ⊢;cases e;exact c _ H1 d (.bl _)
 | false =>
  rw[if_neg qX] at e ⊢;exact⟨S,G,z,h.mono d,e,λv j l r2=>c v j (d.trans l) (r2.from d)⟩
theorem zNU {op}(h:GE X a f):GE X (.BoolOp op [a] pos) f:=zNA h
def GW (X:Cx)(e:Expr)(f:Dst->Option Bool):Prop:=PW X e (gB X.K f)
theorem _root_.L2.PW.imp (h:PW X e t)(i:∀ σ H Q,t' σ H Q->t σ H Q):PW X e t':=λwhole pins s σ H Q I q=>h whole pins s σ H Q I (i σ H Q q)
theorem zF8 (h:GT X a f):GW X (.BoolOp .Or [a] pos) f:=zM2 h
theorem zPw (h:asB (andD f g) G=some b):(asB f G=some true/\asB g G=some b)\/(asB f G=some false/\b=false):=by
 obtain⟨k,e⟩:=zCR h;obtain⟨c,a,e⟩:=bind_some e;cases c with
 | true =>
  rw[if_pos rfl] at e;exact .inl ⟨a,by unfold asB;rw[e]⟩
 | false =>
  grind
theorem zSP (h:asB (orD f g) G=some b):(asB f G=some false/\asB g G=some b)\/(asB f G=some true/\b=true):=by
 obtain⟨k,e⟩:=zCR h;obtain⟨c,a,e⟩:=bind_some e;cases c with
 | true =>
  grind
 | false =>
  rw[if_neg qX] at e;exact .inl ⟨a,by unfold asB;rw[e]⟩
theorem zRN (m:GT X a (asB f))(k:GW X (.BoolOp .And (b::rest) pos) (asB g)):GW X (.BoolOp .And (a::b::rest) pos) (asB (andD f g)):=by
 refine PW.imp (zM3 m k) fun σ H Q zz47=>?_
 obtain⟨S,G,b,h,e,c⟩:=zz47;rcases zPw e with ⟨i,j⟩ | ⟨i,rfl⟩
 .refine ⟨S,G,true,h,i,λH1 d=>?_⟩;refine iteT ?_;exact⟨S,G,b,h.mono d,j,λH' l=>c H' (d.trans l)⟩
 .refine ⟨S,G,false,h,i,λH1 d=>?_⟩;refine iteF ?_;exact c H1 d
theorem zRM (j:GT X a (asB f))(l:GW X (.BoolOp .Or (b::rest) pos) (asB g)):GW X (.BoolOp .Or (a::b::rest) pos) (asB (orD f g)):=by
 refine PW.imp (zQU j l) fun σ H Q zz48=>?_
 obtain⟨S,G,b,i,e,c⟩:=zz48;rcases zSP e with ⟨h,m⟩ | ⟨h,rfl⟩
 .refine ⟨S,G,false,i,h,λH1 d=>?_⟩;refine iteF ?_;exact⟨S,G,b,i.mono d,m,λH' k=>c H' (d.trans k)⟩
 .refine ⟨S,G,true,i,h,λH1 d=>?_⟩;refine iteT ?_;exact c H1 d
noncomputable def iteD (c f g:Dst->Option R):Dst->Option R:=λG=>(asB c G).bind λb=>if b=true then f G else g G
theorem zRn (l:GT X c (asB k))(n:GE X a f)(m:GE X b g):GE X (.IfExp c a b pos) (iteD k f g):=by
 refine(zLW l n m).imp fun σ H Q zz49=>?_
 obtain⟨S,G,z,h,e,c⟩:=zz49;obtain⟨b,o,e⟩:=bind_some e;refine⟨S,G,b,h,o,λH1 d=>?_⟩;cases b with
 | true =>
  rw[if_pos rfl] at e ⊢;exact⟨S,G,z,h.mono d,e,λv i j r2=>c v i (d.trans j) (r2.from d)⟩
 | false =>
  rw[if_neg qX] at e ⊢;exact⟨S,G,z,h.mono d,e,λv i j r2=>c v i (d.trans j) (r2.from d)⟩
theorem zRQ (x:GT X c (asB k))(w:GT X a (asB f))(v:GT X b (asB g)):GT X (.IfExp c a b pos) (asB (iteD k f g)):=by
 intro h s σ H Q I ⟨S,G,z,o,e,p⟩;obtain⟨A,e⟩:=zCR e;obtain⟨b,u,e⟩:=bind_some e;refine isTrue_IfExp (thn (x h s σ H (λb' l=>b'=b/\Same H l) I ⟨S,G,b,o,u,λH1 m=>⟨rfl,m⟩⟩) λd m i=>?_);obtain⟨l,q,t,j⟩:=i;subst t;cases d with
 | true =>
  rw[if_pos rfl] at e;exact w h m σ l Q q ⟨S,G,z,o.mono j,by unfold asB;rw[e],λH' n=>p H' (j.trans n)⟩
 | false =>
  rw[if_neg qX] at e;exact v h m σ l Q q ⟨S,G,z,o.mono j,by unfold asB;rw[e],λH' n=>p H' (j.trans n)⟩
noncomputable def negD (f:Dst->Option R):Dst->Option R:=λG=>match f G with
 | some (.int i,_)=>some (.int (-i),.cl)
 | _=>none
theorem zRm (h:GE X a f):GE X (.UnaryOp .USub a pos) (negD f):=by
 refine(zSn (unI λ_ _ _ _ _ q=>neg_int q) h).imp fun σ H Q zz51=>?_
 obtain⟨S,G,z,b,e,c⟩:=zz51;unfold negD at e;split at e
 .rename_i i k j;cases e;exact⟨S,G,_,b,j,λv d g r1=>⟨i,r1.rd.int,c _ d g (.int _)⟩⟩
 .cases e
noncomputable def cutD (ds:List D)(lo hi:Option Int):List D:=(ds.drop (HT.sIx ds.length 0 lo)).take (HT.sIx ds.length ds.length hi - HT.sIx ds.length 0 lo)
theorem DenL.cut {K:W.Frag}(h:DenL K H ds vs)(b a:Option Int):DenL K H (cutD ds b a) (cutV vs b a):=by
 unfold cutD cutV;rw[<- h.length];exact(h.drop _).take _
def gO (K:W.Frag)(f:Dst->Option (Option Int)):TO:=fun σ H Q=>∃ S G o,DS K H S σ G/\f G=some o/\∀ H',Same H H'->Q o H'
def GO (X:Cx)(e:Option Expr)(f:Dst->Option (Option Int)):Prop:=PO X e (gO X.K f)
theorem _root_.L2.PO.imp (h:PO X e t)(i:∀ σ H Q,t' σ H Q->t σ H Q):PO X e t':=λpins s σ H Q I q=>h pins s σ H Q I (i σ H Q q)
theorem zPE:GO X none (λ_=>some none):=PO.imp (by intro a s σ H Q I h;exact xj ⟨none,H,I,.none,h⟩) fun σ H Q zy154=>by obtain⟨S,G,o,b,e,c⟩:=zy154;cases e;exact c H (Same.refl _)
noncomputable def zOL (f:Dst->Option R):Dst->Option (Option Int):=λG=>match f G with
 | some (.int i,_)=>some (some i)
 | _=>none
theorem zPD (h:GE X e f):GO X (some e) (zOL f):=PO.imp (zOG h) fun σ H Q zz52=>by
 obtain⟨S,G,o,b,e,c⟩:=zz52;unfold zOL at e;split at e
 .rename_i i k g;cases e;exact⟨S,G,_,b,g,λv a d r1=>⟨i,r1.rd.int,c a d⟩⟩
 .cases e
noncomputable def slD (f:Dst->Option R)(l h:Dst->Option (Option Int)):Dst->Option R:=λG=>(f G).bind λx=>(l G).bind λlo=>(h G).bind λhi=>match x.1 with
 | .lst ds=>some (.lst (cutD ds lo hi),.fr)
 | .tup ds=>if HT.sIx ds.length 0 lo=0/\HT.sIx ds.length ds.length hi=ds.length then none else some (.tup (cutD ds lo hi),.cl)
 | _=>none
theorem zS5 {t:Option Expr}(A:GE X a f)(B:GO X t l)(y:GO X hi h):GE X (.Subscript a (.Slice t hi none p2) pos) (slD f l h):=by
 refine(zLU (zN2.or zQJ) A B y).imp fun σ H Q zz53=>?_
 obtain⟨S,G,z,i,e,c⟩:=zz53;obtain⟨x,u,e⟩:=bind_some e;obtain⟨g,s,e⟩:=bind_some e;obtain⟨d,v,e⟩:=bind_some e;split at e
 .rename_i es k;cases e;refine⟨S,G,x,i,u,λvx w j r1=>⟨S,G,g,i.mono j,s,λH2 m=>⟨S,G,d,i.mono (j.trans m),v,λH3 o=>?_⟩⟩⟩;have r3:=r1.rd.mono (m.trans o);rw[k] at r3;obtain⟨a,q,rfl,r,h2⟩:=r3.lst;have b:=j.trans (m.trans o);exact .inl ⟨a,q,rfl,r,λp n=>c _ _ (b.trans (zAU n _)) (.lstNew b (i.mono b).sok n (h2.cut g d))⟩
 .rename_i es k;split at e
  .cases e
  .rename_i C;cases e;refine⟨S,G,x,i,u,λvx w j r1=>⟨S,G,g,i.mono j,s,λH2 m=>⟨S,G,d,i.mono (j.trans m),v,λH3 o=>?_⟩⟩⟩;have r3:=r1.rd.mono (m.trans o);rw[k] at r3;obtain⟨a,q,rfl,r,h2⟩:=r3.tup;have b:=j.trans (m.trans o);exact .inr ⟨a,q,rfl,r,by rw[<- h2.length];exact C,λp n=>c _ _ (b.trans (zAU n _)) (.tupNew (i.mono b).sok n (h2.cut g d))⟩
 .cases e
def OpD1 (K:W.Frag)(r:List V->Hp->VK->Prop)(o:D->Option R):Prop :=
 ∀ (S:List Addr) (H:Hp) (x:D) (z:R) (vx:V) (Q:VK),(∀ a∈S,∃ xs:HO,H a=some xs/\MuB xs)->o x=some z->Rdv K H S x vx->(∀ v H',Same H H'->RV K H H' S z v->Q v H')->r [vx] H Q
noncomputable def one (f:Dst->Option R)(o:D->Option R):Dst->Option R:=λG=>(f G).bind λx=>o x.1
theorem zNF (h:OpD1 X.K r o){σ:St}(q:gT X.K (one f o) σ H Q):tCB r (zQC (gT X.K f) tNil) σ H Q:=by
 obtain⟨S,G,z,b,e,c⟩:=q;obtain⟨x,d,e⟩:=bind_some e;exact⟨S,G,x,b,d,λvx j a r1=>h S j x.1 z vx Q (b.mono a).sok e r1.rd λv g i r2=>c v g (a.trans i) (r2.from a)⟩
theorem zRt {b:String}(l:zCi X (.builtin b) r)(h:OpD1 X.K r o)(d:Gl X x)(g:X.mg x=none)(k:bootBuiltins x=some (.builtin b))(j:GE X e f)
  (c:starEach [e] X.env=[(false,eval e X.env)]) (i:x ≠ "__name__") (a:(x==("__debug__":Str))=false):GE X (.Call (.Name x p) [e] [] pos) (one f o) :=
 (zC0 l d g k (zAR j zAs c) i a c rfl).imp λ_ _ _ q=>zNF h q
theorem zPM (j:zCi X (.type T) r)(h:OpD1 X.K r o)(c:Gl X x)(g:X.mg x=none)(d:bootBuiltins x=some (.type T))(k:GE X e f)
  (b:starEach [e] X.env=[(false,eval e X.env)]) (i:x ≠ "__name__") (a:(x==("__debug__":Str))=false):GE X (.Call (.Name x p) [e] [] pos) (one f o) :=
 (zFl j c g d (zAR k zAs b) i a b rfl).imp λ_ _ _ q=>zNF h q
noncomputable def lenD:D->Option R
 | .lst ds=>some (.int ds.length,.cl)
 | .tup ds=>some (.int ds.length,.cl)
 | _=>none
theorem zOP:OpD1 X.K (λxs H Q=>∃ p ys,xs=[.ref p]/\(SqL X.K H p ys\/SqT X.K H p ys)/\Q (.int ys.length) H) lenD:=by
 intro S H x z h Q _ e g c;unfold lenD at e;split at e
 .cases e;obtain⟨a,b,rfl,f,d⟩:=g.lst;exact⟨a,b,rfl,.inl f,by rw[<- d.length];exact c _ H (Same.refl _) (.int _)⟩
 .cases e;obtain⟨a,b,rfl,f,d⟩:=g.tup;exact⟨a,b,rfl,.inr f,by rw[<- d.length];exact c _ H (Same.refl _) (.int _)⟩
 .cases e
noncomputable def absD:D->Option R
 | .int i=>some (.int (if i < 0 then -i else i),.cl)
 | _=>none
theorem zOS:OpD1 X.K (λxs H Q=>∃ i,xs=[.int i]/\Q (.int (if i < 0 then -i else i)) H) absD:=by
 intro S H x z b Q _ e a c;unfold absD at e;split at e
 .cases e;rename_i i;have:=a.int;subst this;exact⟨i,rfl,c _ H (Same.refl _) (.int _)⟩
 .cases e
noncomputable def zOg:D->Option R
 | .lst ds=>some (.lst ds,.fr)
 | .tup ds=>some (.lst ds,.fr)
 | _=>none
theorem zLb:OpD1 X.K (λxs H Q=>∃ p ys,xs=[.ref p]/\(SqL X.K H p ys\/SqT X.K H p ys)/\∀ l,H l=none->Q (.ref l) (upd H l (.lst ys))) zOg:=by
 intro S H x z i Q b e h c;unfold zOg at e;split at e
 .cases e;obtain⟨a,d,rfl,f,g⟩:=h.lst;exact⟨a,d,rfl,.inl f,λp n=>c _ _ (zAU n _) (.lstNew (Same.refl _) b n g)⟩
 .cases e;obtain⟨a,d,rfl,f,g⟩:=h.tup;exact⟨a,d,rfl,.inr f,λp n=>c _ _ (zAU n _) (.lstNew (Same.refl _) b n g)⟩
 .cases e
theorem zTA {l:String}{k:Int->Int->Int}(A:zCi X (.builtin l) (λxs H Q=>∃ i j,xs=[.int i,.int j]/\Q (.int (k i j)) H))
  (h:∀ x y z,o x y=some z->∃ i j,x=.int i/\y=.int j/\z=(.int (k i j),.cl)) (E:Gl X x) (D:X.mg x=none) (I:bootBuiltins x=some (.builtin l)) (J:GE X e1 f) (B:GE X e2 g)
  (r:starEach [e1,e2] X.env=(false,eval e1 X.env)::starEach [e2] X.env) (a:starEach [e2] X.env=[(false,eval e2 X.env)]) (F:x ≠ "__name__") (b:(x==("__debug__":Str))=false):GE X (.Call (.Name x p) [e1,e2] [] pos) (two f g o):=by
 refine(zC0 A E D I (zAR J (zAR B zAs a) r) F b r (by rw[a];rfl)).imp fun σ H Q zz54=>?_
 obtain⟨S,G,z,m,e,c⟩:=zz54;obtain⟨x,w,e⟩:=bind_some e;obtain⟨y,C,e⟩:=bind_some e;obtain⟨i,j,v,t,rfl⟩:=h _ _ _ e;refine⟨S,G,x,m,w,λvx K d r1=>⟨S,G,y,m.mono d,C,λvy u s r2=>⟨i,j,?_,c _ u (d.trans s) (.int _)⟩⟩⟩;have n:=r1.rd;have q:=r2.rd;rw[v] at n;rw[t] at q;rw[n.int,q.int]
noncomputable def maxD (x y:D):Option R:=match x,y with
 | .int i,.int j=>some (.int (if j>i then j else i),.cl)
 | _,_=>none
inductive Ty where
 | int | bool | str | tuple | list
 deriving DecidableEq
noncomputable def Ty.nm:Ty->String
 | .int => "int" | .bool => "bool" | .str => "str" | .tuple => "tuple" | .list => "list"
def spD (K:W.Frag)(F:List D->Option R):Sp:=λvs H Q _=>∃ S ds r,(∀ a∈S,∃ xs:HO,H a=some xs/\MuB xs)/\DenL K (hide H S) ds vs/\F ds=some r/\r.2≠.dt/\∀ v H',Same H H'->RV K H H' S r v->Q v H'
def spD0 (K:W.Frag)(F:List D->Option R):Sp:=λvs H Q _=>∃ ds r,DenL K H ds vs/\F ds=some r/\r.2≠.dt/\∀ v H',Same H H'->RV K H H' [] r v->Q v H'
noncomputable def zIU (F:List D->Option R)(g:Dst->Option (List D)):Dst->Option R:=λG=>(g G).bind λds=>(F ds).bind λr=>if r.2=.dt then none else some r
theorem zHm {σ:St}(q:gT X.K (zIU F g) σ H Q):zLH (spD X.K F) [] E0 (gA X.K g) σ H Q:=by
 obtain⟨S,G,z,b,e,c⟩:=q;obtain⟨d,h,e⟩:=bind_some e;obtain⟨r,j,e⟩:=bind_some e;by_cases hr:r.2=.dt
 .rw [if_pos hr] at e;cases e
 rw[if_neg hr] at e;cases e;refine⟨S,G,d,b,h,λvs f a r1=>?_⟩;show spD X.K F (vs++[]) f Q E0;rw[append_nil];exact⟨S,d,_,(b.mono a).sok,r1,j,hr,λv i k r2=>c v i (a.trans k) (r2.from a)⟩
def gAL (K:W.Frag)(f:Dst->Option (List D)):TA:=fun σ H Q=>∃ S G ds,DS K H S σ G/\f G=some ds/\∀ vs H',Same H H'->DenL K H' ds vs->Q vs H'
def GAL (X:Cx)(es:List Expr)(f:Dst->Option (List D)):Prop:=PA X es (gAL X.K f)
theorem zPT:GAL X [] (λ_=>some []):=zAs.imp fun σ H Q zz55=>by
 obtain⟨S,G,z,a,e,c⟩:=zz55;cases e;exact c [] H (Same.refl _) .nil
noncomputable def zSK (f:Dst->Option R)(g:Dst->Option (List D)):Dst->Option (List D):=λG=>(f G).bind λx=>(g G).bind λxs=>some (x.1::xs)
theorem zMI (l:GE X e f)(k:GAL X es g)(i:starEach (e::es) X.env=(false,eval e X.env)::starEach es X.env):GAL X (e::es) (zSK f g):=by
 refine(zAR l k i).imp fun σ H Q zz56=>?_
 obtain⟨S,G,z,d,e,c⟩:=zz56;obtain⟨x,j,e⟩:=bind_some e;obtain⟨n,a,e⟩:=bind_some e;cases e;refine⟨S,G,x,d,j,λv o h r1=>⟨S,G,n,d.mono h,a,λvs m b r2=>?_⟩⟩;exact c _ m (h.trans b) (.cons (r1.rd.whole.mono b) r2)
theorem zEA {K:W.Frag}(e0:Env0 P w K mg base A outer s H)(hS:∀ a∈S,∃ xs:HO,H a=some xs/\MuB xs)(hk:r.2≠.dt)
  (run:Env0 P w K mg base A outer s (hide H S)->codeAny (model P w) A cd (CR CX0 outer P w (hide H S) s (λv H2=>RV K (hide H S) H2 [] r v/\Same (hide H S) H2) E) s) (c:∀ v H',Same H H'->RV K H H' S r v->Q v H'):codeAny (model P w) A cd (CR CX0 outer P w H s Q E) s:=by
 have inS:∀ {b:Addr} {o:HO},b∈S->H b=some o->MuB o:=λ{b o} z e=>by
  obtain⟨xs,q,mu⟩:=hS b z;rw[q] at e;cases e;exact mu
 have hok:HOk P w (hide H S) s.heap:=λb o e=>by
  obtain⟨nb,e'⟩:=zA5 e;refine(e0.hok b o e').stay (λc u _ q=>q) (λc q=>?_) (λc xs q=>?_) λc ob u q _=>?_
  .rw [zAQ λz=>?_]
   .exact q
   .exact (inS z q).elim
  .rw [zAQ λz=>?_]
   .exact q
   .exact (inS z q).elim
  .rw [zAQ λz=>?_]
   .exact q
   .exact (inS z q).elim
 have none_of:∀ {b:Addr},H b=none->hide H S b=none:=λ{b} q=>by
  by_cases z:b∈S
  .exact zCK z
  .rw [zAQ z];exact q
 have e1:Env0 P w K mg base A outer s (hide H S):=⟨e0.frames,e0.mod,λb o e=>⟨(e0.bs b o e).1,none_of (e0.bs b o e).2⟩,e0.bsz,e0.funs,λb z=>none_of (e0.frf b z),hok,e0.bare,e0.tree,λx hx c P e=>by
  have q:=e0.tabs x hx c P e;rw[zAQ λz=>(inS z q).elim];exact q⟩
 refine codeAny_mono (run e1) λres s' h=>?_
 cases res with
 | error e=>exact h.elim
 | ok fl =>
  cases fl with
  | next=>exact h
  | brk=>exact h
  | cont=>exact h
  | ret u =>
   obtain⟨v,H2,os,bare,un,hok2,rv2,r2,s2⟩:=h;have there:∀ {b:Addr},b∈S->∃ ob xs,s.heap.get? b=some ob/\s'.heap.get? b=some ob/\H2 b=none/\H b=some xs/\MuB xs/\zBV P w H s.heap b xs:=λ{b} z=>by
    obtain⟨xs,q,mu⟩:=hS b z;have ok:=e0.hok b _ q;obtain⟨ob,e⟩:∃ ob,s.heap.get? b=some ob:=by
     cases xs with
     | lst ys=>obtain⟨z1,its,n,r1,e⟩:=id ok;exact⟨_,e⟩
     | dT kvs=>obtain⟨_,_,_,_,ob,_,_,e,_⟩:=id ok;exact⟨ob,e⟩
     | _=>exact mu.elim
    exact⟨ob,xs,e,un.keep b _ e (zCK z) (λz2=>by rw[e0.frf b z2] at q;cases q) (by simp),un.free b _ e (zCK z) (by simp),q,mu,ok⟩
   have out:∀ {b:Addr} {o:HO},H2 b=some o->b∉S:=λ{b o} e z=>by
    obtain⟨_,_,_,_,q,_⟩:=there z;rw[q] at e;cases e
   obtain⟨H',h'in,h'out⟩:∃ H':Hp,(∀ {b:Addr},b∈S->H' b=H b)/\(∀ {b:Addr},b∉S->H' b=H2 b):=⟨λb=>if b∈S then H b else H2 b,λz=>if_pos z,λz=>if_neg z⟩;have sH:Same H H':=λb o e=>by
    by_cases z:b∈S
    .rw [h'in z];exact e
    .rw [h'out z];exact s2 b o (by rw[zAQ z];exact e)
   have sub:Same H2 (hide H' S):=λb o e=>by
    rw[zAQ (out e),h'out (out e)];exact e
   refine⟨v,H',os,bare,⟨λb o e n=>un.keep b o e (none_of n),λb o e n=>un.slot b o e (none_of n),λb o e n hx=>?_,un.there,λb xs e=>?_,λb o u e=>?_,λb ps e=>?_⟩,λb o e=>?_,rv2,c v H' sH ?_⟩
   .by_cases z:b∈S
    .rw [h'in z];exact n
    .rw [h'out z];exact un.free b o e (none_of n) hx
   .exact sH b _ e
   .exact sH b _ e
   .exact sH b _ e
   .by_cases z:b∈S
    .rw [h'in z] at e;obtain⟨ob,xs,g1,g2,_,g4,mu,ok⟩:=there z;rw[g4] at e;cases e;cases o with
     | lst ys =>
      obtain⟨z1,its,n,r1,e⟩:=ok;rw[g1] at e;cases e;exact⟨z1,its,n,r1,g2⟩
     | dT kvs =>
      obtain⟨z1,z2,xs,r1,ob',es,ep,e,rest⟩:=ok;rw[g1] at e;cases e;exact⟨z1,z2,xs,Paired.mapP r1 λp q z=>⟨z.1,sH _ _ z.2.1,z.2.2⟩,ob,es,ep,g2,rest⟩
     | _=>exact mu.elim
    .rw [h'out z] at e;exact(hok2 b o e).stay (λc u _ q=>q) (λc q=>by rw[h'out (out q)];exact q) (λc xs q=>by rw[h'out (out q)];exact q) λc ob u q _=>by rw[h'out (out q)];exact q
   .obtain ⟨d,kd⟩:=r;cases kd with
    | cl =>
     have q:Den K (hide H2 []) d v:=r2;rw[zBm] at q;exact q.mono sub
    | fr =>
     obtain⟨a,ws,es,ev,ed,_,na,ha,t⟩:=r2;have aS:a∉S:=out ha;refine⟨a,ws,es,ev,ed,aS,by rw[zAQ aS] at na;exact na,by rw[h'out aS];exact ha,t.mono λb o e=>?_⟩;obtain⟨q1,q2⟩:=zA5 e;have nb:b∉a::S:=λz=>(mem_cons.mp z).elim (λz=>q1 (by rw[z];exact xy)) (out q2)
     rw[zAQ nb,h'out (out q2)];exact q2
    | dt=>exact absurd rfl hk
theorem FnOk.framed {K:W.Frag}(G:FnOk P w K mg base CX0 k f fd ps (spD0 K F)):FnOk P w K mg base CX0 k f fd ps (spD K F):=by
 refine⟨λvs H Q E h=>?_,λA a s H b us vs Q E m o p n h=>?_⟩
 .obtain ⟨S,i,r,l,e,g,d,c⟩:=h;exact G.len vs _ _ E ⟨i,r,e,g,d,λ_ _ _ _=>trivial⟩
 obtain⟨S,i,r,l,e,g,d,c⟩:=h;exact zEA o l d (λe1=>G.run A a s _ b us vs _ E m e1 p n ⟨i,r,e,g,d,λv u q r1=>⟨r1,q⟩⟩) c
end
inductive Out where
 | nx (G:Dst) | rt (r:R) | bk (G:Dst) | ct (G:Dst)
def Post (K:W.Frag)(H0:Hp)(o:Out)(E:Ends):Prop:=match o with
 | .nx G'=>∀ S' O1 H',DS K H' S' O1 G'->Same H0 (hide H' S')->E.nx O1 H'
 | .bk G'=>∀ S' O1 H',DS K H' S' O1 G'->Same H0 (hide H' S')->E.bk O1 H'
 | .ct G'=>∀ S' O1 H',DS K H' S' O1 G'->Same H0 (hide H' S')->E.ct O1 H'
 | .rt r=>r.2≠.dt/\∀ v H',Same H0 H'->RV K H0 H' [] r v->E.rt v H'
def gS (K:W.Frag)(H0:Hp)(g:Dst->Option Out):TS:=λE σ H=>∃ S G o,DS K H S σ G/\Same H0 (hide H S)/\g G=some o/\Post K H0 o E
def GS (X:Cx)(st:Stmt)(g:Dst->Option Out):Prop:=∀ H0,PS X st (gS X.K H0 g)
def GSs (X:Cx)(st:List Stmt)(g:Dst->Option Out):Prop:=∀ H0,PSs X st (gS X.K H0 g)
theorem _root_.L2.PS.imp {st:Stmt}(h:PS X st t)(i:∀ E σ H,t' E σ H->t E σ H):PS X st t':=λpins s σ H E I q=>h pins s σ H E I (i E σ H q)
theorem _root_.L2.PSs.imp {st:List Stmt}(h:PSs X st t)(i:∀ E σ H,t' E σ H->t E σ H):PSs X st t':=λpins s σ H E I q=>h pins s σ H E I (i E σ H q)
section
variable {X:Cx}
noncomputable def seqD (f g:Dst->Option Out):Dst->Option Out:=λG=>(f G).bind λo=>match o with
 | .nx G'=>g G'
 | o=>some o
theorem zO5:GSs X [] (λG=>some (.nx G)):=λH0=>zGa.imp λE σ H a=>by
 obtain⟨S,G,o,b,c,e,p⟩:=a;cases e;exact p S σ H b c
theorem zL2 {st:Stmt}(k:GS X st f)(j:GSs X rest g):GSs X (st::rest) (seqD f g):=λH0=>(zEz (k H0) (j H0)).imp λE σ H a=>by
 obtain⟨S,G,o,m,h,e,p⟩:=a;obtain⟨c,l,e⟩:=bind_some e;refine⟨S,G,c,m,h,l,?_⟩;cases c with
 | nx b=>exact λS' t q d i=>⟨S',b,o,d,i,e,p⟩
 | rt r=>cases e;exact p
 | bk b=>cases e;exact p
 | ct b=>cases e;exact p
theorem zO4 (h:∀ G o,f G=some o->∃ G',o=.nx G'/\∀ K H S σ,DS K H S σ G->∃ S',(∀ b∈S',b∈S)/\DS K H S' σ G')(l:GSs X rest g):GSs X rest (seqD f g):=λH0=>(l H0).imp λE σ H a=>by
 obtain⟨S,G,o,c,j,e,p⟩:=a;obtain⟨d,i,e⟩:=bind_some e;obtain⟨G',rfl,k⟩:=h G d i;obtain⟨S',sub,m⟩:=k _ H S σ c;exact⟨S',G',o,m,j.trans (zCD sub),e,p⟩
theorem zSE {K:W.Frag}{σ:St}(ds:DS K H S σ G)(h0:Same H0 (hide H S))(s1:Same H H')(p:Post K H0 (.nx G) E):E.nx σ H' :=
 p S σ H' (ds.mono s1) (h0.trans (zAP s1))
noncomputable def retD (f:Dst->Option R):Dst->Option Out:=λG=>(f G).bind λr=>if r.2=.dt then none else some (.rt r)
theorem RV.up {K:W.Frag}(h0:Same H0 (hide H S))(s1:Same H H')(hr:r.2≠.dt)(h:RV K H H' S r v):Same H0 H'/\RV K H0 H' [] r v:=by
 refine⟨h0.trans (zAi.trans s1),?_⟩;obtain⟨d,k⟩:=r;cases k with
 | cl =>
  exact Den.mono zAi h
 | fr =>
  obtain⟨a,vs,ds,e1,e2,e3,e4,e5,t⟩:=h;refine⟨a,vs,ds,e1,e2,by simp,?_,e5,t.mono (zCD λb z=>by
   have:b=a:=by simpa using z
   rw[this];exact xy)⟩
  cases q:H0 a with
  | none=>rfl
  | some o =>
   have:=(zA5 (h0 a o q)).2;grind
 | dt=>exact absurd rfl hr
theorem zRT (h:GE X e f):GS X (.Return (some e) pos) (retD f):=λH0=>(zIz h).imp λE σ H a=>by
 obtain⟨S,G,o,j,b,e,p⟩:=a;obtain⟨r,d,e⟩:=bind_some e;by_cases hr:r.2=.dt
 .rw [if_pos hr] at e;cases e
 rw[if_neg hr] at e;cases e;refine⟨S,G,r,j,d,λv g k r1=>?_⟩;obtain⟨c,i⟩:=RV.up b k hr r1;exact p.2 v g c i
noncomputable def zGY (i:Nat):Dst->Option Out:=λG=>match G[i]? with
 | some (some (.lst d,true))=>some (.rt (.lst d,.fr))
 | _=>none
theorem zJz (t:X.N[i]?=some x)(n:Vis X.env.scope x)(k:(x==("__debug__":Str))=false)(f:(x==("__classdict__":Str))=false):GS X (.Return (some (.Name x pos')) pos) (zGY i):=λH0=>(zIz (zDR t n k f)).imp λE σ H c=>by
 obtain⟨S,G,o,w,g,e,p⟩:=c;unfold zGY at e;split at e
 .rename_i d q;cases e;obtain⟨v,r,j⟩:=w.get i _ true q;obtain⟨a,m,es,rfl,s,h,u,l⟩:=j.ownL rfl;refine⟨.ref a,r,p.2 _ H (g.trans zAi) ⟨a,m,es,rfl,s,by simp,?_,u,l.mono (zCD λb z=>by
   have:b=a:=by simpa using z
   rw[this];exact h)⟩⟩
  cases q:H0 a with
  | none=>rfl
  | some o=>exact absurd h (zA5 (g a o q)).1
 .cases e
theorem zPC :GS X (.Pass pos) (λG=>some (.nx G)):=λH0=>zOD.imp λE σ H a=>by
 obtain⟨S,G,o,b,c,e,p⟩:=a;cases e;exact p S σ H b c
noncomputable def setD (i:Nat)(f:Dst->Option R):Dst->Option Out:=λG=>(f G).bind λr=>match r.2 with
 | .cl=>some (.nx (G.set i (some (r.1,false))))
 | .fr=>some (.nx (G.set i (some (r.1,true))))
 | .dt=>none
theorem zEV {K:W.Frag}{σ:St}(ds:DS K H S σ G)(h0:Same H0 (hide H S))(s1:Same H H')(r1:RV K H H' S r v)
  (e:(match r.2 with | .cl=>some (Out.nx (G.set i (some (r.1,false)))) | .fr=>some (Out.nx (G.set i (some (r.1,true)))) | .dt=>none)=some o) (p:Post K H0 o E):E.nx (σ.set i (some v)) H':=by
 obtain⟨d,k⟩:=r;cases k with
 | cl =>
  cases e;exact p S _ H' ((ds.mono s1).set r1) (h0.trans (zAP s1))
 | fr =>
  cases e;obtain⟨a,vs,es,rfl,rfl,e3,e4,e5,t⟩:=r1;exact p (a::S) _ H' (ds.setF s1 e4 e5 t) (h0.trans (zDj s1 e4))
 | dt=>cases e
theorem zNT (k:X.N.Nodup)(g:X.N[i]?=some x)(c:Loc X.env.scope x)(h:GE X e f)(n:swapsWith e (some (.Name x pos')) pos.line X.env=pure false)(d:X.fn x=true\/X.env.scope.names.lookup x=some .local) :
  GS X (.Assign [.Name x pos'] e pos) (setD i f):=λH0=>(zM6 k g c h n d).imp λE σ H a=>by
 obtain⟨S,G,o,b,j,e,p⟩:=a;obtain⟨r,l,e⟩:=bind_some e;exact⟨S,G,r,b,l,λv q m r1=>zEV b j m r1 e p⟩
noncomputable def appD (i:Nat)(f:Dst->Option R):Dst->Option Out:=λG=>match G[i]? with
 | some (some (.lst xs,true))=>(f G).bind λr=>if r.2=.dt then none else if xs.length<=10000 then some (.nx (G.set i (some (.lst (xs++[r.1]),true)))) else none
 | _=>none
theorem zRX (E:X.N[i]?=some x)(O:Vis X.env.scope x)(M:(x==("__debug__":Str))=false)(m:(x==("__classdict__":Str))=false)(h:GE X e f)
  (s:starEach [e] X.env=[(false,eval e X.env)]) (b:attributeBase (.Name x npos) "append" X.env (eval (.Name x npos) X.env)=eval (.Name x npos) X.env) (c:(apos.endLine==cpos.line)=true) :
  GS X (.Expr (.Call (.Attribute (.Name x npos) "append" apos) [e] [] cpos) pos) (appD i f):=λH0=>(zDB (zGd PySem.F.plainAttrs_list PySem.F.slot_list_append PySem.F.type_list_append zFu (zDR E O M m) (zAR h zAs s) b (by rw[s];rfl) c s rfl) rfl).imp λE σ H g=>by
 obtain⟨S,G,o,l,J,e,p⟩:=g;unfold appD at e;split at e
 .rename_i z q;obtain⟨r,L,e⟩:=bind_some e;by_cases hr:r.2=.dt
  .rw [if_pos hr] at e;cases e
  rw[if_neg hr] at e;by_cases hl:z.length<=10000
  .rw [if_pos hl] at e;cases e;obtain⟨v,A,F⟩:=l.get i _ true q;obtain⟨a,C,es,rfl,D,K,u,w⟩:=F.ownL rfl;cases D;refine⟨.ref a,A,.inl ⟨rfl,_,SqL.of u⟩,S,G,r,l,L,λy B j r1=>?_⟩;have N:Den X.K (hide B S) r.1 y:=RV.den (d:=r.1) (k:=r.2) r1 hr;have n:=w.mono (zAP j (S:=S));refine⟨a,C,y,rfl,rfl,j _ _ u,by rw[<- w.length];exact Nat.lt_of_le_of_lt hl (by decide),?_⟩;have t:DenL X.K (hide B S) (z++[r.1]) (C++[y]):=n.append (.cons N .nil);have I:=(l.mono j).change (i:=i) q A t;refine p S σ _ I ?_;rw[zFH K];exact J.trans (zAP j)
  .rw [if_neg hl] at e;cases e
 .cases e
noncomputable def ifD (c:Dst->Option Bool)(f g:Dst->Option Out):Dst->Option Out:=λG=>(c G).bind λb=>if b=true then f G else g G
theorem zS1 (r:GT X c k)(n:GSs X a f)(q:GSs X b g):GS X (.If c a b pos) (ifD k f g):=λH0=>(zQV r (n H0) (q H0)).imp λE σ H d=>by
 obtain⟨S,G,o,i,j,e,p⟩:=d;obtain⟨b,m,e⟩:=bind_some e;refine⟨S,G,b,i,m,λH1 h=>?_⟩;cases b with
 | true =>
  rw[if_pos rfl] at e ⊢;exact⟨S,G,o,i.mono h,j.trans (zAP h),e,p⟩
 | false =>
  rw[if_neg qX] at e ⊢;exact⟨S,G,o,i.mono h,j.trans (zAP h),e,p⟩
noncomputable def zEU (c:Dst->Option Bool)(b:Dst->Option Out):Nat->Dst->Option Out
 | 0,_=>none
 | n+1,G=>(c G).bind λk=>if k=true then (b G).bind λo=>(match o with
   | .nx G'=>zEU c b n G'
   | .ct G'=>zEU c b n G'
   | .bk G'=>some (.nx G')
   | .rt r=>some (.rt r)) else some (.nx G)
noncomputable def zIZ (c:Dst->Option Bool)(b:Dst->Option Out)(G:Dst):Option Out:=zEU c b 1000 G
theorem zHu (h:zIZ c b G=some o):∃ n,zEU c b n G=some o:=⟨_,h⟩
theorem zL9 (z:PassesOwn (model X.prog X.w) X.A X.env X.xe)(C:GT X c k)(A:GSs X body f):GS X (.While c body [] pos) (zIZ k f):=λH0=>(zLR z C (A H0)).imp λE σ H h=>by
 obtain⟨S,G,o,g,j,e,p⟩:=h;obtain⟨n,a⟩:=zHu e;refine⟨λm σ H=>∃ S G,DS X.K H S σ G/\Same H0 (hide H S)/\zEU k f m G=some o,⟨n,S,G,g,j,a⟩,?_⟩;rintro m σ H ⟨S,G,g,j,a⟩;cases m with
 | zero=>cases a
 | succ m =>
  obtain⟨b,x,a⟩:=bind_some a;refine⟨S,G,b,g,x,λH1 l=>?_⟩;cases b with
  | false =>
   rw[if_neg qX] at a ⊢;cases a;exact zSE g j l p
  | true =>
   rw[if_pos rfl] at a ⊢;obtain⟨u,y,a⟩:=bind_some a;refine⟨λO1 d=>∃ S G,DS X.K d S O1 G/\Same H0 (hide d S)/\zEU k f m G=some o,λO1 d q=>⟨m,Nat.lt_succ_self m,q⟩,S,G,u,g.mono l,j.trans (zAP l),y,?_⟩;cases u with
   | nx i=>exact λS' O1 d t s=>⟨S',i,t,s,a⟩
   | ct i=>exact λS' O1 d t s=>⟨S',i,t,s,a⟩
   | bk i=>cases a;exact p
   | rt r=>cases a;exact p
noncomputable def forD (t:D->Dst->Option Dst)(b:Dst->Option Out):List D->Dst->Option Out
 | [],G=>some (.nx G)
 | x::xs,G=>(t x G).bind λY1=>(b Y1).bind λo=>match o with
  | .nx G'=>forD t b xs G'
  | .ct G'=>forD t b xs G'
  | .bk G'=>some (.nx G')
  | .rt r=>some (.rt r)
def GG (X:Cx)(tg:Expr)(t:D->Dst->Option Dst):Prop:=∃ g,PG X tg g/\∀ (K:W.Frag),K=X.K->∀ (x:D) (v:V) (σ:St) (H:Hp) (S:List Addr) (G G':Dst) (Q:St->Hp->Prop),DS K H S σ G->Den K (hide H S) x v->t x G=some G'->(∀ O1,DS K H S O1 G'->Q O1 H)->g v σ H Q
theorem zJ7 (f:X.N.Nodup)(a:X.N[i]?=some x)(c:Loc X.env.scope x)(g:X.fn x=true\/X.env.scope.names.lookup x=some .local):GG X (.Name x pos) (λd G=>some (G.set i (some (d,false)))) :=
 ⟨_,zE4 f a c g,λK k x v σ H S G j Q h b e q=>by
  cases e;exact q _ (h.set b)⟩
def GI (X:Cx)(tg iter:Expr)(f:Dst->Option (List D)):Prop:=∃ wi,PI X tg iter wi/\∀ (σ:St) (H:Hp) (S:List Addr) (G:Dst) (xs:List D) (Rr:It->Hp->Prop),DS X.K H S σ G->f G=some xs ->
 (∀ J H1,Same H H1->(∀ (i:Nat) H2,i<=xs.length->Same (hide H1 S) H2->(i=xs.length->J.stop i H2)/\(i < xs.length->J.go i H2/\∀ v H3,J.yld i H2 v H3->H3=H2/\∀ x,xs[i]?=some x->Den X.K (hide H1 S) x v))->Rr J H1)->wi σ H Rr
theorem zRU (hp:PassesOwn (model X.prog X.w) X.A X.env X.xe)(hc:X.calm=true)(F:GI X tg iter f)(M:GG X tg t)(hb:GSs X body b)
  (U:∀ x,foldedSetIterable iter X.env x=pure x):GS X (.For tg iter body [] pos) (λG=>(f G).bind λxs=>forD t b xs G):=by
 intro H0;obtain⟨wi,L,hI⟩:=F;obtain⟨g,M,hG⟩:=M;intro a s σ H E I ⟨S,G,o,O,h0,e,p⟩;obtain⟨xs,W,e⟩:=bind_some e;refine(zM7 (tb:=λE σ l=>∃ d,gS X.K (hide d S) b E σ l/\Same (hide d S) (hide d S)) hp hc L M ?_ U) a s σ H E I ?_
 .intro a s σ H E I ⟨d,q,_⟩;exact hb (hide d S) a s σ H E I q
 refine hI σ H S G xs _ O W λJ d P V=>?_
 refine⟨λi m B l=>i<=xs.length/\m=xs.length - i/\∃ h k,DS X.K l h B k/\Same (hide d S) (hide l h)/\forD t b (xs.drop i) k=some o,⟨xs.length,zero_le _,by omega,S,G,O.mono P,Same.refl _,e⟩,?_⟩;rintro i m B l ⟨F,rfl,h,k,u,A,c⟩;have D:Same H0 (hide d S):=h0.trans (zAP P);obtain⟨T,j2⟩:=V i l F (A.trans zAi);by_cases hlt:i < xs.length
 .obtain ⟨go,Z⟩:=j2 hlt;have hd:xs.drop i=xs[i]::xs.drop (i+1):=List.drop_eq_getElem_cons hlt;rw[hd] at c;obtain⟨R,e1,c⟩:=bind_some c;obtain⟨N,e2,c⟩:=bind_some c;refine .inr ⟨go,λO9 n=>∃ h k,DS X.K n h O9 k/\Same (hide d S) (hide n h)/\forD t b (xs.drop (i+1)) k=some o,λO9 n q=>⟨xs.length - (i+1),by omega,hlt,rfl,q⟩,λv n y=>?_⟩;obtain⟨rfl,Y⟩:=Z v n y;refine hG X.K rfl xs[i] v B n h k R _ u ((Y _ (by simp[hlt])).mono A) e1 λU3 J=>⟨d,⟨h,R,N,J,A,e2,?_⟩,Same.refl _⟩
  cases N with
  | nx C=>exact λS2 K z w j=>⟨S2,C,w,j,c⟩
  | ct C=>exact λS2 K z w j=>⟨S2,C,w,j,c⟩
  | bk C =>
   cases c;exact λS2 K z w j=>p S2 K z w (D.trans j)
  | rt r =>
   cases c;refine⟨p.1,λv z q1 j=>p.2 v z (D.trans q1) (j.from D)⟩
 .have ei:i=xs.length:=by omega
  subst ei;rw[List.drop_eq_nil_of_le (le_refl _)] at c;cases c;exact .inl ⟨T rfl,p h B l u (D.trans A)⟩
noncomputable def rngL (lo:Int)(n:Nat):List D:=(List.range n).map λ(k:Nat)=>D.int (lo+k)
theorem zFi {K:W.Frag}{lo:Int}(i:Nat)(H2:Hp)(hi:i<=(rngL lo n).length):(i=(rngL lo n).length->(Itr lo n).stop i H2)/\(i < (rngL lo n).length->(Itr lo n).go i H2/\∀ v H3,(Itr lo n).yld i H2 v H3->H3=H2/\∀ x,(rngL lo n)[i]?=some x->Den K (hide H1 S) x v):=by
 have hl:(rngL lo n).length=n:=by unfold rngL;simp
 refine⟨λe=>by rw[hl] at e;exact Nat.le_of_eq e.symm,λh=>⟨by rw[hl] at h;exact h,λv H3 y=>⟨y.1,λx ex=>?_⟩⟩⟩;rw[hl] at h;have:(rngL lo n)[i]?=some (D.int (lo+i)):=by unfold rngL;simp[h]
 rw[this] at ex;cases ex;exact y.2
noncomputable def zIu (f:Dst->Option R):Dst->Option (List D):=λG=>match f G with
 | some (.int j,_)=>if -(2^62)<=j/\j < 2^62 then some (rngL 0 j.toNat) else none
 | _=>none
theorem zJ6 (m:Gl X "range")(g:X.mg "range"=none)(h:GE X a f)(b:starEach [a] X.env=[(false,eval a X.env)]):GI X tg (.Call (.Name "range" p) [a] [] pos) (zIu f):=by
 refine⟨_,zFk m g (zAR h zAs b) b,fun σ H S G xs Rr ds e q=>?_⟩;unfold zIu at e;split at e
 .rename_i j k o;by_cases hj:-2^62<=j/\j < 2^62
  .rw [if_pos hj] at e;cases e;exact⟨S,G,_,ds,o,λv d l r1=>⟨j,by rw[r1.rd.int],hj.1,hj.2,q _ d l λi n c _=>zFi i n c⟩⟩
  .simp_all
 .cases e
noncomputable def zLN (f g:Dst->Option R):Dst->Option (List D):=λG=>match f G,g G with
 | some (.int i,_),some (.int j,_)=>if (-(2^62)<=i/\i < 2^62)/\-(2^62)<=j/\j < 2^62 then some (rngL i (j - i).toNat) else none
 | _,_=>none
theorem zJ5 (l:Gl X "range")(r:X.mg "range"=none)(s:GE X a f)(n:GE X b g)(t:starEach [a,b] X.env=(false,eval a X.env)::starEach [b] X.env)(c:starEach [b] X.env=[(false,eval b X.env)]):GI X tg (.Call (.Name "range" p) [a,b] [] pos) (zLN f g):=by
 refine⟨_,zI5 l r (zAR s (zAR n zAs c) t) (by simp_all) c,fun σ H S G xs Rr ds e q=>?_⟩;unfold zLN at e;split at e
 .rename_i i k j w m ej;by_cases hj:(-2^62<=i/\i < 2^62)/\-(2^62)<=j/\j < 2^62
  .rw [if_pos hj] at e;cases e;exact⟨S,G,_,ds,m,λv x h r1=>⟨S,G,_,ds.mono h,ej,λu d u r2=>⟨i,j,by rw[r1.rd.int,r2.rd.int],⟨hj.1.1,hj.1.2,hj.2.1,hj.2.2⟩,q _ d (h.trans u) λi d o _=>zFi i d o⟩⟩⟩
  .rw [if_neg hj] at e;cases e
 .cases e
noncomputable def frzD (i:Nat):Dst->Option Out:=λG=>match G[i]? with
 | some (some (d,true))=>some (.nx (G.set i (some (d,false))))
 | _=>some (.nx G)
theorem zRz :∀ G o,frzD i G=some o->∃ G',o=.nx G'/\∀ K H S σ,DS K H S σ G->∃ S',(∀ b∈S',b∈S)/\DS K H S' σ G':=λG o e=>by
 unfold frzD at e;split at e
 .rename_i d q;cases e;exact⟨_,rfl,λK H S σ a=>a.freeze q⟩
 .cases e;exact⟨_,rfl,λK H S σ a=>⟨S,λ_ z=>z,a⟩⟩
noncomputable def dFun (np nN:Nat)(g:Dst->Option Out)(ds:List D):Option R :=
 if ds.length=np/\np<=nN then (g (ds.map (λd=>some (d,false))++List.replicate (nN - np) none)).bind λo=>match o with
  | .rt r=>some r
  | .nx _=>some (.non,.cl)
  | _=>none
 else none
theorem zMb {K:W.Frag}(h:DenL K H ds vs)(k:ds.length<=N.length):DS K H [] (zB8 N vs) (ds.map (λd=>some (d,false))++List.replicate (N.length - ds.length) none):=by
 have g:=h.length;refine⟨by unfold L2.zB8;simp[<- g],λa z=>absurd z (by simp),λi d o q=>?_,λi j d e a b _ _ _=>?_⟩
 .have c:i < ds.length:=by
   by_cases z:i < ds.length
   .exact z
   .rw [getElem?_append_right (by simpa using z),getElem?_replicate] at q;split at q<;>cases q
  rw[getElem?_append_left (by simpa using c),getElem?_map] at q;cases e:ds[i]? with
  | none=>rw[e] at q;cases q
  | some l =>
   rw[e] at q;cases q;obtain⟨v,b,f⟩:=h.get e;refine⟨v,?_,.of_den (by rw[zBm];exact f)⟩;unfold L2.zB8;rw[getElem?_append_left (by simp_all),getElem?_map,b]
   rfl
 .have c:i < ds.length:=by
   by_cases z:i < ds.length
   .exact z
   .rw [getElem?_append_right (by simpa using z),getElem?_replicate] at b;split at b<;>cases b
  rw[getElem?_append_left (by simpa using c)] at b
  simp_all
theorem zRy {K:W.Frag}{st:Stmt}(F:Fun K x qual st f fd)(S:zAV N ps (zAA st))
  (b:∀ (cdv:Value) (A:Around) (outer:List Env) (s:Shared) (H:Hp) (E:XK),Room k (A.deeper (envOfC qual (zAA st) s.heap.objs.size f cdv))->GSs (cxOf CX0 P w K mg base N qual (zAA st) f cdv A outer s H E).nox (zAF st) g) :
  FnOk P w K mg base CX0 (k+1) f fd ps (spD K (dFun ps.length N.length g)):=by
 refine FnOk.framed (F.ok S (λvs H Q E h=>?_) λcdv A outer s H u Q E m h=>?_)
 .obtain ⟨e,r,d,a,l,c⟩:=h;unfold dFun at a;by_cases q:e.length=ps.length/\ps.length<=N.length
  .rw [<- d.length];exact q.1
  .simp_all
 obtain⟨e,r,d,a,l,c⟩:=h;refine⟨_,b cdv A outer s H E m H,?_⟩;unfold dFun at a;by_cases q:e.length=ps.length/\ps.length<=N.length
 .rw [if_pos q] at a;obtain⟨o,j,a⟩:=bind_some a;rw[<- q.1] at j;refine⟨[],_,o,zMb d (by rw[q.1];exact q.2),by rw[zBm];exact Same.refl _,j,?_⟩;cases o with
  | nx i =>
   cases a;exact λS' v p t n=>c _ p (n.trans zAi) rfl
  | rt y =>
   cases a;exact⟨l,c⟩
  | bk i=>cases a
  | ct i=>cases a
 .simp_all
end
end DL
end
section
namespace DL
open PySem
noncomputable def zB9 (env:Env):List (Str×NameKind)->List (Str×Addr)->List (Str×Addr)
 | [],acc=>acc
 | (n,k)::r,acc=>zB9 env r (if k==.free then (match env.cells.lookup n with | some c=>(n,c)::acc | none=>acc) else acc)
theorem zFP (f:Str×NameKind->List (Str×Addr)->Sem (ForInStep (List (Str×Addr))))
  (hf:∀ n k cs,f (n,k) cs=if k==.free then (do let a<-cellOf env n;pure (.yield ((n,a)::cs))) else pure (.yield cs)) :
  ∀ (names:List (Str×NameKind)) (acc:List (Str×Addr)),(∀ x∈names,x.2=.free->∃ c,env.cells.lookup x.1=some c)->forIn names acc f=(pure (zB9 env names acc):Sem (List (Str×Addr)))
 | [],acc,_=>by rw[List.forIn_nil];rfl
 | (n,k)::r,acc,h=>by
  rw[forIn_cons,hf];have hr:∀ x∈r,x.2=.free->∃ c,env.cells.lookup x.1=some c:=λx z=>h x (qY _ z)
  cases e:k==.free with
  | true =>
   obtain⟨c,ec⟩:=h (n,k) xy (by simpa using e);have e1:cellOf env n=pure c:=by unfold cellOf;rw[ec]
   rw[if_pos rfl,e1];unfold zB9;rw[e,if_pos rfl,ec];exact zFP f hf r _ hr
  | false =>
   rw[if_neg qX];unfold zB9;rw[e,if_neg qX];exact zFP f hf r _ hr
theorem zBn (h:∀ x∈scope.names,x.2=.free->∃ c,env.cells.lookup x.1=some c):closureFor scope env=pure (zB9 env scope.names []):=by
 show (forIn scope.names _ _>>=λcs=>pure cs)=_;rw[zFP _ (λn k cs=>rfl) scope.names [] h]
 rfl
theorem zGJ :∀ (f:List (Str×NameKind)) (a:List (Str×Addr)),(∀ x c,a.lookup x=some c->env.cells.lookup x=some c)->∀ x c,(zB9 env f a).lookup x=some c->env.cells.lookup x=some c
 | [],a,h,x,c,e=>h x c e
 | (n,k)::r,a,h,x,c,e=>by
  unfold zB9 at e;refine zGJ r _ ?_ x c e;intro y d q;cases z:k==.free with
  | false=>rw[z,if_neg qX] at q;exact h y d q
  | true =>
   rw[z,if_pos rfl] at q;cases w:env.cells.lookup n with
   | none=>rw[w] at q;exact h y d q
   | some c' =>
    rw[w] at q;dsimp only at q;rw[lookup_cons] at q;cases b:y==n with
    | true =>
     rw[b] at q;cases q;have:y=n:=by simpa using b
     rw[this];exact w
    | false=>rw[b] at q;exact h y d q
theorem zEk :∀ (names:List (Str×NameKind)) (acc:List (Str×Addr)),(∃ c,acc.lookup x=some c)->∃ c,(zB9 env names acc).lookup x=some c
 | [],acc,h=>h
 | (n,k)::r,acc,h=>by
  unfold zB9;refine zEk r _ ?_;cases z:k==.free with
  | false=>rw[if_neg qX];exact h
  | true =>
   rw[if_pos rfl];cases w:env.cells.lookup n with
   | none=>exact h
   | some c' =>
    dsimp only;rw[lookup_cons];cases b:x==n with
    | true=>exact⟨_,rfl⟩
    | false=>exact h
theorem zEI :∀ (names:List (Str×NameKind)) (acc:List (Str×Addr)),(x,NameKind.free)∈names->(∃ c,env.cells.lookup x=some c)->∃ c,(zB9 env names acc).lookup x=some c
 | (n,k)::r,acc,hm,hc=>by
  unfold zB9;rcases mem_cons.mp hm with e | hm
  .cases e;obtain⟨c,hc⟩:=hc;refine zEk r _ ?_;rw[show (NameKind.free==NameKind.free)=true from rfl,if_pos rfl,hc];exact⟨c,by rw[lookup_cons];simp⟩
  .exact zEI r _ hm hc
theorem zEj :∀ (a:List (Str×NameKind)) (e:List (Str×Addr)) (c:Addr),(zB9 env a e).lookup x=some c->(x,NameKind.free)∈a\/∃ c,e.lookup x=some c
 | [],e,c,h=>.inr ⟨c,h⟩
 | (n,k)::r,e,c,h=>by
  unfold zB9 at h;rcases zEj r _ c h with q | ⟨d,q⟩
  .exact .inl (qY _ q)
  .cases z:k==.free with
   | false=>rw[z,if_neg qX] at q;exact .inr ⟨d,q⟩
   | true =>
    rw[z,if_pos rfl] at q;cases w:env.cells.lookup n with
    | none=>rw[w] at q;exact .inr ⟨d,q⟩
    | some c' =>
     rw[w] at q;dsimp only at q;rw[lookup_cons] at q;cases b:x==n with
     | true =>
      have e1:x=n:=by simpa using b
      have f:k=.free:=by simpa using z
      subst e1 f;exact .inl xy
     | false=>rw[b] at q;exact .inr ⟨d,q⟩
theorem zCO :∀ (a:List (Str×NameKind)) (n:Nat) (d:List (Str×Addr)) (c:Addr),(cellsFrom n a d).lookup x=some c->((x,NameKind.cell)∈a/\n<=c)\/d.lookup x=some c
 | [],n,d,c,h=>.inr h
 | (y,k)::r,n,d,c,h=>by
  unfold cellsFrom at h;cases z:k==.cell with
  | false =>
   rw[z,if_neg qX] at h;rcases zCO r n d c h with ⟨q1,q2⟩ | q
   .exact .inl ⟨qY _ q1,q2⟩
   .exact .inr q
  | true =>
   rw[z,if_pos rfl] at h;rcases zCO r (n+1) _ c h with ⟨q1,q2⟩ | q
   .exact .inl ⟨qY _ q1,by omega⟩
   .rw [lookup_cons] at q;cases b:x==y with
    | true =>
     rw[b] at q;cases q;have e1:x=y:=by simpa using b
     have e:k=.cell:=by simpa using z
     subst e1 e;exact .inl ⟨xy,le_refl _⟩
    | false=>rw[b] at q;exact .inr q
section
variable {M:Model}{A:Around}{E:Value->Shared->Prop}{s:Shared}
theorem zGi 
  (c:Q (newEnv scope s.heap.objs.size globals (cellsFrom (s.heap.objs.size+1) scope.names cl) qual none .none (some outer) builtinsNs) { s with heap:=pushCells (s.heap.push { cls:=.type "dict",data:=.dict #[] }) scope.names }) :
  wpAny M A (newFunctionEnv scope globals cl [] qual none .none (some outer)) Q E s:=by
 refine qQ (wpAny_alloc ?_);refine qQ (wpAny_layCells _ λname a b=>by cases hkc:a==NameKind.cell<;>simp[hkc] _ _ _ _ ?_);simp;exact qQ (xj (xj c))
end
section
variable {prog:Program}{w:World}{A:Around}{R:Result->Shared->Prop}{s:Shared}
abbrev NB (prog:Program) (w:World) (A:Around) (env:Env) (R:Result->Shared->Prop):Value->Shared->Prop:=notedBy (model prog w) A env λe s'=>R (.error e) s'
theorem zGH (I:Nat->Shared->Prop)
  (turn:∀ n s,I n s->wpAny (model prog w) A (pyNext it) (λr O4=>match r with
   | none=>R (.ok .next) O4
   | some v=>wpAny (model prog w) A (letOwnedTupleGo target it v) (λ_ s1'=>wpAny (model prog w) A (assign target env v) (λ_ O8 =>
     wpAny (model prog w) A (forIn ifs true λc r=>if r=true then do let ok<-isTrue c env (eval c env);pure (ForInStep.yield ok) else pure (ForInStep.yield r)) (λok Y2 =>
      if ok=true then wpAny (model prog w) A (eval elt env) (λx Y8 =>
       wpAny (model prog w) A (call (.builtin "list.append") [acc,x]) (λ_ Z9=>∃ m,m < n/\I m Z9) (NB prog w A env R) Y8) (NB prog w A env R) Y2
      else ∃ m,m < n/\I m Y2) (NB prog w A env R) O8) (NB prog w A env R) s1') (NB prog w A env R) O4) (NB prog w A env R) s)
  (n:Nat) (h:I n s) :
  codeAny (model prog w) A (.compLoop (.ListComp elt [⟨target,iter,ifs,0⟩] scope pos) 0 it acc env) R s:=by
 refine codeAny_loop rfl I (λn s hI=>?_) n h;show wpAny _ A ((compTurn (.ListComp elt [⟨target,iter,ifs,0⟩] scope pos) 0 it acc env).onRaise (λx=>do noteFrame x env;theTreesLotGoes x)) _ _ s;refine wpAny_noted ?_;rw[compTurn_list];refine qQ (wpAny_standAt (qQ (wpAny_mono (turn n s hI) (λr O4 O7=>?_) λ_ _ h'=>h')));cases r with
 | none=>exact xj O7
 | some v =>
  refine qQ (wpAny_mono O7 (λ_ s1' U4=>?_) λ_ _ h'=>h');refine qQ (wpAny_mono U4 (λ_ O8 Y6=>qQ (wpAny_mono Y6 (λok Y2 Y9=>?_) λ_ _ h'=>h')) λ_ _ h'=>h');cases ok with
  | false=>exact xj ⟨rfl,Y9⟩
  | true =>
   exact qQ (qQ (wpAny_mono Y9 (λx Y8 U5=>qQ (wpAny_mono U5 (λ_ Z9 U6=>xj (xj ⟨rfl,U6⟩)) λ_ _ h'=>h')) λ_ _ h'=>h'))
end
end DL
end
section
namespace DL
open PySem Spec PyProof.Rows L2
noncomputable def relS (sc scope:Scope):Scope :=
 { scope with names:=scope.names.map λ(n,k)=>if (k==.free&&sc.kind==.function&&sc.names.lookup n==some .cell) then (n,.cell) else (n,k) }
theorem zDF {a:List (Str×NameKind)}:a.lookup x=some k->(x,k)∈a:=λh=>PySem.mem_of_lookup h
theorem zCk:∀ {names:List (Str×NameKind)} {x:Str} {k:NameKind},(names.map (·.1)).Nodup->(x,k)∈names->names.lookup x=some k
 | (y,j)::r,x,k,nd,hm=>by
  rw[map_cons,nodup_cons] at nd;rw[lookup_cons];rcases mem_cons.mp hm with e | hm2
  .cases e;simp
  .have ne:(x==y)=false:=by
    cases b:x==y with
    | false=>rfl
    | true =>
     have e1:x=y:=by simpa using b
     exact absurd (show y∈r.map (·.1) from mem_map.mpr ⟨(x,k),hm2,e1⟩) nd.1
   rw[ne];exact zCk nd.2 hm2
theorem zDE {sc:Scope}:∀ (names:List (Str×NameKind)) (x:Str),(names.map λ(n,k)=>if (k==NameKind.free&&sc.kind==.function&&sc.names.lookup n==some .cell) then (n,NameKind.cell) else (n,k)).lookup x =
  (names.lookup x).map λk=>if (k==NameKind.free&&sc.kind==.function&&sc.names.lookup x==some .cell) then NameKind.cell else k
 | [],x=>rfl
 | (n,k)::r,x=>by
  rw[map_cons,lookup_cons];have ih:=zDE (sc:=sc) r x;cases b:x==n with
  | true =>
   have e1:x=n:=by simpa using b
   subst e1;dsimp only;by_cases c:(k==NameKind.free&&sc.kind==.function&&sc.names.lookup x==some .cell)=true
   .rw [if_pos c,lookup_cons];simp only[beq_self_eq_true,Option.map_some,if_pos c]
   .rw [if_neg c,lookup_cons];simp only[beq_self_eq_true,Option.map_some,if_neg c]
  | false =>
   dsimp only;by_cases c:(k==NameKind.free&&sc.kind==.function&&sc.names.lookup n==some .cell)=true
   .rw [if_pos c,lookup_cons,b];exact ih
   .rw [if_neg c,lookup_cons,b];exact ih
noncomputable def ownB (scope:Scope)(y:Str):Bool:=match scope.names.lookup y with
 | some .local=>true
 | some .cell=>true
 | _=>false
structure zCW (sc scope:Scope):Prop where
 kind:scope.kind=.function
 nd:(scope.names.map (·.1)).Nodup
 fr:∀ x∈scope.names,x.2=.free->sc.names.lookup x.1=some .cell\/sc.names.lookup x.1=some .free
theorem zCM:∀ (d:List (Str×NameKind)) (n:Nat) (a:List (Str×Addr)),(∀ x y c,a.lookup x=some c->a.lookup y=some c->x=y)->(∀ x c,a.lookup x=some c->c < n)->∀ x y c,(cellsFrom n d a).lookup x=some c->(cellsFrom n d a).lookup y=some c->x=y
 | [],n,a,h1,_,x,y,c,e1,e2=>h1 x y c e1 e2
 | (z,k)::r,n,a,h1,h2,x,y,c,e1,e2=>by
  unfold cellsFrom at e1 e2;cases b:k==.cell with
  | false =>
   rw[b,if_neg qX] at e1 e2;exact zCM r n a h1 h2 x y c e1 e2
  | true =>
   rw[b,if_pos rfl] at e1 e2;refine zCM r (n+1) _ ?_ ?_ x y c e1 e2
   .intro x y c q1 q2;rw[lookup_cons] at q1 q2;cases b1:x==z with
    | true =>
     cases b2:y==z with
     | true =>
      have e3:x=z:=by simpa using b1
      have e:y=z:=by simpa using b2
      rw[e3,e]
     | false =>
      rw[b1] at q1;rw[b2] at q2;cases q1;exact absurd (h2 y _ q2) (lt_irrefl _)
    | false =>
     cases b2:y==z with
     | true =>
      rw[b1] at q1;rw[b2] at q2;cases q2;exact absurd (h2 x _ q1) (lt_irrefl _)
     | false =>
      rw[b1] at q1;rw[b2] at q2;exact h1 x y c q1 q2
   .intro x c q1;rw[lookup_cons] at q1;cases b1:x==z with
    | true=>rw[b1] at q1;cases q1;exact Nat.lt_succ_self _
    | false=>rw[b1] at q1;exact Nat.lt_succ_of_lt (h2 x c q1)
theorem zBE :∀ (names:List (Str×NameKind)) (n:Nat) (acc:List (Str×Addr)),(∃ c,acc.lookup x=some c)->∃ c,(cellsFrom n names acc).lookup x=some c
 | [],n,acc,h=>h
 | (z,k)::r,n,acc,h=>by
  unfold cellsFrom;cases b:k==.cell with
  | false=>rw[if_neg qX];exact zBE r n acc h
  | true =>
   rw[if_pos rfl];refine zBE r (n+1) _ ?_;rw[lookup_cons];cases b1:x==z with
   | true=>exact⟨_,rfl⟩
   | false=>exact h
theorem zCN :∀ (names:List (Str×NameKind)) (n:Nat) (acc:List (Str×Addr)),(x,NameKind.cell)∈names->∃ c,(cellsFrom n names acc).lookup x=some c
 | (z,k)::r,n,acc,hm=>by
  unfold cellsFrom;rcases mem_cons.mp hm with e | hm
  .cases e;rw[show (NameKind.cell==NameKind.cell)=true from rfl,if_pos rfl];exact zBE r (n+1) _ ⟨n,by rw[lookup_cons];simp⟩
  .cases b:k==.cell with
   | false=>rw[if_neg qX];exact zCN r n acc hm
   | true=>rw[if_pos rfl];exact zCN r (n+1) _ hm
theorem zAz:∀ (names:List (Str×NameKind)) (h:Heap) (b:Addr) (o:Obj),h.get? b=some o->(pushCells h names).get? b=some o
 | [],h,b,o,e=>e
 | (z,k)::r,h,b,o,e=>by
  unfold pushCells;cases c:k==.cell with
  | false=>rw[if_neg qX];exact zAz r h b o e
  | true=>rw[if_pos rfl];exact zAz r _ b o (get?_push_of_some _ e)
theorem zCA:∀ (names:List (Str×NameKind)) (h:Heap) (acc:List (Str×Addr)),(∀ x c,acc.lookup x=some c->∃ v,h.IsCell c v)->∀ x c,(cellsFrom h.objs.size names acc).lookup x=some c->∃ v,(pushCells h names).IsCell c v
 | [],h,acc,q,x,c,e=>q x c e
 | (z,k)::r,h,acc,q,x,c,e=>by
  unfold cellsFrom at e;unfold pushCells;cases b:k==.cell with
  | false =>
   rw[b,if_neg qX] at e;rw[if_neg qX];exact zCA r h acc q x c e
  | true =>
   rw[b,if_pos rfl] at e;rw[if_pos rfl];have es:(h.push { cls:=.type "cell",data:=.cell none }).objs.size=h.objs.size+1:=Heap.size_push ..;rw[<- es] at e;refine zCA r (h.push { cls:=.type "cell",data:=.cell none }) ((z,h.objs.size)::acc) ?_ x c e;intro y d p;rw[lookup_cons] at p;cases b1:y==z with
   | true =>
    rw[b1] at p;cases p;exact⟨none,_,get?_push_size _ rfl,rfl⟩
   | false =>
    rw[b1] at p;obtain⟨v,o,ho,hd⟩:=q y d p;exact⟨v,o,get?_push_of_some _ ho,hd⟩
noncomputable def zB6 (scope:Scope)(X:Cx)(s:Shared):Env :=
 { newEnv scope s.heap.objs.size X.env.globals (cellsFrom (s.heap.objs.size+1) scope.names (zB9 X.env scope.names [])) X.env.qual none .none (some X.env) builtinsNs with scope:=relabel scope X.env }
noncomputable def zAb (X:Cx)(N:List Str)(scope:Scope)(s:Shared)(H:Hp)(fp:List Addr):Cx :=
 { X with N:=N,s0:=s,Y5:=H,env:=zB6 scope X s,outer:=X.stack,stack:=X.stack,ex:=fp,fn:=ownB scope,pn:=[],xe:=λ_ _=>False }
section
variable {X:Cx}{pins:List (Addr×Obj)}{σ σc:St}{H:Hp}{s:Shared}{fp:List Addr}{scope:Scope}{N:List Str}
theorem zEH (I:Inv X pins σ H s)(cs:zCW X.env.scope scope):∀ x∈scope.names,x.2=.free->∃ c,X.env.cells.lookup x.1=some c:=λx a b =>
 I.ok.has x.1 (cs.fr x a b)
theorem zLs (I:Inv X pins σ H s)(E:∀ b∈fp,FpOk X pins H b/\∃ o,s.heap.get? b=some o)(cs:zCW X.env.scope scope)
  (Z5:∀ (i:Nat) (x:Str) (v:V),N[i]?=some x->σc[i]?=some (some v)->Vis (relS X.env.scope scope) x->scope.names.lookup x=some .free/\∃ j:Nat,X.N[j]?=some x/\σ[j]?=some (some v)) (C:σc.length=N.length) :
  Inv (zAb X N scope s H fp) [] σc H { s with heap:=pushCells (s.heap.push { cls:=.type "dict",data:=.dict #[] }) scope.names }:=by
 have K:∀ b o,s.heap.get? b=some o->(pushCells (s.heap.push { cls:=.type "dict",data:=.dict #[] }) scope.names).get? b=some o:=λb o e=>zAz _ _ b o (get?_push_of_some _ e)
 have a:∀ x c,(zB9 X.env scope.names []).lookup x=some c->X.env.cells.lookup x=some c:=λx c e=>zGJ scope.names [] (λ_ _ q=>by simp at q) x c e
 have n:∀ x c,(zB9 X.env scope.names []).lookup x=some c->c < s.heap.objs.size:=λx c e=>by
  obtain⟨v,q⟩:=I.cell x c (a x c e);exact q.lt
 have f:∀ x c,(zB6 scope X s).cells.lookup x=some c->((x,NameKind.cell)∈scope.names/\s.heap.objs.size+1<=c)\/(zB9 X.env scope.names []).lookup x=some c:=λx c e=>zCO scope.names _ _ c e
 have U:∀ x,(zB6 scope X s).kindOf x=(scope.names.lookup x).map λk=>if (k==NameKind.free&&X.env.scope.kind==.function&&X.env.scope.names.lookup x==some .cell) then NameKind.cell else k:=λx=>zDE (sc:=X.env.scope) scope.names x
 have J:(s.heap.push { cls:=.type "dict",data:=.dict #[] }).objs.size=s.heap.objs.size+1:=Heap.size_push ..;refine⟨⟨I.ok.mod,cs.kind,I.ok.glob,I.ok.blt,le_refl _,λx y c Q R=>?_,λx g=>?_,λx c g h=>?_,I.ok.hd,I.ok.frames,.inl rfl,λb A=>⟨?_,λx c h z=>?_⟩,λb o e=>I.bs b o e,le_trans I.ok.bsz I.sz,λb o e A=>?_,λb A z=>?_,I.stack,I.stkFree,I.ok.pyl,I.tabs⟩,
  rfl,I.bare,Un.kept K,⟨λ_=>none,?_,λi x v Q R h3=>?_⟩,λx c h=>?_,I.hok.fresh (le_refl _),λx c h=>?_,λp hp=>absurd (show p∈([]:List (Addr×Obj)) from hp) (by simp),I.hok.kept K,C⟩
 .exact zCM scope.names _ _ (λx y c B P=>I.ok.inj x y c (a x c B) (a y c P)) (λx c q=>Nat.lt_succ_of_lt (n x c q)) x y c Q R
 .replace g:(zB6 scope X s).kindOf x=some .cell\/(zB6 scope X s).kindOf x=some .free:=g;rw[U x] at g;cases q:scope.names.lookup x with
  | none=>rw[q] at g;simp at g
  | some k =>
   rw[q] at g;by_cases kf:k=.free
   .subst kf;have l:=zDF q;exact zBE scope.names _ _ (zEI scope.names [] l (zEH I cs _ l rfl))
   .have M:(k==NameKind.free)=false:=by simpa using kf
    simp only[M,Bool.false_and,Option.map_some,Bool.false_eq_true,if_false] at g;rcases g with g | g
    .cases g;exact zCN scope.names _ _ (zDF q)
    .cases g;exact absurd rfl kf
 .rcases f x c h with ⟨_,q⟩ | q
  .exact le_trans (Nat.le_succ _) q
  .rcases zEj scope.names [] c q with l | ⟨d,l⟩
   .have M:=zCk cs.nd l;have t:ownB scope x=true:=g;unfold ownB at t;rw[M] at t;cases t
   .simp at l
 .obtain ⟨_,o,e⟩:=E b A;exact ne_of_lt (lt_size e)
 .obtain ⟨⟨T,O,F,r,L,S⟩,o,e⟩:=E b A;rcases f x c h with ⟨_,q⟩ | q
  .have:=lt_size e;rw[z] at q;exact absurd (xJ (Nat.lt_succ_of_lt this) q) (lt_irrefl _)
  .exact L x c (a x c q) z
 .obtain ⟨⟨T,O,F,r,L,S⟩,_⟩:=E b A;rcases r with r | r
  .exact I.ok.noex b o e r
  .exact absurd (xJ (lt_size e) (le_trans I.ok.bsz r)) (lt_irrefl _)
 .obtain ⟨⟨T,O,F,r,L,S⟩,_⟩:=E b A;rcases mem_cons.mp (I.stkSub b z) with q | q
  .exact O q
  .exact F q
 .exact (Heap.Ns.new s.heap (.type "dict")).keeps (zAz _ _)
 .obtain ⟨B,j,P,q3⟩:=Z5 i x v Q R h3;have l:=zDF B;have hv:=cs.fr _ l rfl;obtain⟨m,hn,Z⟩:=I.loc;obtain⟨u,W,lk⟩:=Z j x v P q3 (hv.elim (λe=>.inr (.inl e)) λe=>.inr (.inr e));refine⟨u,W,.inr ⟨?_,?_⟩⟩
  .show (zB6 scope X s).kindOf x=_\/(zB6 scope X s).kindOf x=_;rw[U x,B];dsimp only[Option.map_some];split
   .exact .inl rfl
   .exact .inr rfl
  .rcases lk with ⟨k1,_⟩ | ⟨_,c,k2,k3⟩
   .have Y:X.env.scope.names.lookup x=some .local:=k1
    simp_all
   .obtain ⟨G,D⟩:=zBE scope.names (s.heap.objs.size+1) _ (zEI (env:=X.env) scope.names [] l ⟨c,k2⟩);refine⟨G,D,?_⟩;rcases f x G D with ⟨z,_⟩ | z
    .have:=zCk cs.nd z;rw[B] at this;cases this
    .have:=a x G z;rw[k2] at this;cases this;exact k3.keeps K
 .have D:(cellsFrom (s.heap.push { cls:=.type "dict",data:=.dict #[] }).objs.size scope.names (zB9 X.env scope.names [])).lookup x=some c:=by rw[J];exact h
  exact zCA scope.names _ _ (λy d q=>by
   obtain⟨v,w⟩:=I.cell y d (a y d q);exact⟨v,w.keeps λb o e=>get?_push_of_some _ e⟩) x c D
 .rcases f x c h with ⟨_,q⟩ | q
  .exact I.hok.fresh (le_trans (Nat.le_succ _) q)
  .exact I.freeC x c (a x c q)
end
noncomputable def noN (N:List Str):Str:=Str.ofString (String.ofList (List.replicate N.length (Char.ofNat 32)))
noncomputable def mask {O:Type}(z:O):List Nat->List O->List O
 | [],l=>l
 | m::ms,l=>mask z ms (l.set m z)
theorem zBF {O:Type}(z:O):∀ (ms:List Nat) (l:List O),(mask z ms l).length=l.length
 | [],l=>rfl
 | m::ms,l=>by unfold mask;rw[zBF z ms,length_set]
theorem zBl {O:Type}{z y:O}{i:Nat}:∀ {ms:List Nat} {l:List O},(mask z ms l)[i]?=some y->(y=z/\i∈ms)\/(l[i]?=some y/\i∉ms)
 | [],l,h=>.inr ⟨h,by simp⟩
 | m::ms,l,h=>by
  unfold mask at h;rcases zBl h with ⟨e,hm⟩ | ⟨e,hm⟩
  .exact .inl ⟨e,qY _ hm⟩
  .rcases zAS e with ⟨e1,e2,_⟩ | ⟨ne,e1⟩
   .exact .inl ⟨e2,by rw[<- e1];exact xy⟩
   .exact .inr ⟨e1,λz=>(mem_cons.mp z).elim (λq=>ne q.symm) hm⟩
theorem zE8 {O:Type}{z:O}{i:Nat}:∀ {ms:List Nat} {l:List O},i∉ms->(mask z ms l)[i]?=l[i]?
 | [],l,_=>rfl
 | m::ms,l,h=>by
  unfold mask;rw[zE8 λq=>h (qY _ q),getElem?_set_ne λq=>h (by rw[q];exact xy)]
theorem zCS {O:Type}{l:List (Option O)}{k i:Nat}{y:O}(h:(l++List.replicate k none)[i]?=some (some y)):l[i]?=some (some y)/\i < l.length:=by
 by_cases hi:i < l.length
 .rw [getElem?_append_left hi] at h;exact⟨h,hi⟩
 .rw [getElem?_append_right (by omega),getElem?_replicate] at h;grind
theorem DS.ext {K:W.Frag}{σ:St}(h:DS K H S σ G)(ms:List Nat)(k:Nat):DS K H S (mask none ms σ++List.replicate k none) (mask none ms G++List.replicate k none):=by
 refine⟨by rw[qj,qj,zBF,zBF,h.len,length_replicate,length_replicate],h.sok,λi d o q=>?_,λi j d e a q1 q2 q3 q4=>?_⟩
 .obtain ⟨q,hi⟩:=zCS q;rcases zBl q with ⟨z,_⟩ | ⟨q,ni⟩
  .cases z
  .obtain ⟨v,w1,w2⟩:=h.get i d o q;exact⟨v,by rw[getElem?_append_left (by rw[zBF] at hi ⊢;rw[h.len];exact hi),zE8 ni];exact w1,w2⟩
 .obtain ⟨q1,_⟩:=zCS q1;obtain⟨q2,_⟩:=zCS q2;obtain⟨q3,_⟩:=zCS q3;obtain⟨q4,_⟩:=zCS q4;rcases zBl q1 with ⟨z,_⟩ | ⟨q1,_⟩
  .cases z
  rcases zBl q2 with ⟨z,_⟩ | ⟨q2,_⟩
  .cases z
  rcases zBl q3 with ⟨z,_⟩ | ⟨q3,_⟩
  .cases z
  rcases zBl q4 with ⟨z,_⟩ | ⟨q4,_⟩
  .cases z
  exact h.inj i j d e a q1 q2 q3 q4
noncomputable def zGI (t:D->Dst->Option Dst)(c:Dst->Option Bool)(e:Dst->Option R):List D->Dst->Option (List D)
 | [],_=>some []
 | x::xs,G=>(t x G).bind λY1=>(c Y1).bind λb=>if b=true then (e Y1).bind λr=>if r.2=.dt then none else (zGI t c e xs Y1).bind λys=>some (r.1::ys) else zGI t c e xs Y1
noncomputable def zIT (ms:List Nat)(k:Nat)(f:Dst->Option (List D))(t:D->Dst->Option Dst)(c:Dst->Option Bool)(e:Dst->Option R):Dst->Option R:=λG =>
 (f G).bind λzs=>if zs.length<=10000 then (zGI t c e zs (mask none ms G++List.replicate k none)).bind λys=>some (.lst ys,.fr) else none
def GCs (X:Cx)(ifs:List Expr)(c:Dst->Option Bool):Prop:=∀ (pins:List (Addr×Obj)) (s:Shared) (σ:St) (H:Hp) (Q:Bool->Hp->Prop),Inv X pins σ H s->gB X.K c σ H Q ->
 wpAny (model X.prog X.w) X.A (forIn ifs true λc r=>if r=true then do let ok<-isTrue c X.env (eval c X.env);pure (ForInStep.yield ok) else pure (ForInStep.yield r)) (TP X pins σ Q) X.xe s
section
variable {X:Cx}
theorem zHh (F:X.calm=true)(d4:PI X tg iter wi)(cs:zCW X.env.scope scope)
  (hm:∀ (i:Nat) x,X.N[i]?=some x->ownB scope x=true->i∈ms)
    {σ:St}  (I:Inv X pins σ H s) {L:It->Hp->Nat->Nat->St->Hp->List V->Prop} {Z:Hp->Hp->List V->Prop}
  (h0:wi σ H λJ H2=>∃ n,L J H2 n 0 (mask none ms σ++List.replicate xs.length none) H2 [])
  (len:∀ {J H2 n i O1 H' vs},L J H2 n i O1 H' vs->vs.length<=10000)
  (step:∀ {J H2 n i O1 H' vs} (s3:Shared) (fp:List Addr),L J H2 n i O1 H' vs->(J.stop i H'/\Z H2 H' vs)\/∃ n',n' < n/\J.go i H'/\∀ v H5,J.yld i H' v H5->H5=H' /\
   ∀ (Y:Cx),Y=zAb X (mask (noN X.N) ms X.N++xs) scope s3 H2 fp->∀ (pn:List (Addr×Obj)) (s5:Shared) (u:Value) (E:Value->Shared->Prop),Inv Y pn O1 H' s5->RelV v u ->
    wpAny (model X.prog X.w) X.A (assign tg Y.env u) (λ_ s6=>wpAny (model X.prog X.w) X.A (forIn ifs true λc r=>if r=true then do let ok<-isTrue c Y.env (eval c Y.env);pure (ForInStep.yield ok) else pure (ForInStep.yield r)) (λok s7 =>
     if ok=true then wpAny (model X.prog X.w) X.A (eval elt Y.env) (λuv s8=>∃ v' O5 H8,Inv Y pn O5 H8 s8/\RelV v' uv/\L J H2 n' (i+1) O5 H8 (vs++[v'])) E s7 else ∃ O5 H8,Inv Y pn O5 H8 s7/\L J H2 n' (i+1) O5 H8 vs) E s6) E s5)
  {RR:Value->Addr->Result->Shared->Prop}
  (e8:∀ (D C:Addr) (s1:Shared) (H'':Hp) (m:Str->Option Value),s1.heap.Ns C m->(∀ h',Heap.SameBut C s1.heap h'->Inv X pins σ H'' { s1 with heap:=h' })->H'' C=none->C≠X.env.locals->C∉X.fs->X.s0.heap.objs.size<=C ->
   (∀ x c,X.env.cells.lookup x=some c->c≠C)->(∀ p∈X.pn++pins,p.1≠C)->(∃ H2 H' vs,Z H2 H' vs/\H2 D=none/\H' D=none/\H''=upd H' D (.lst vs))->RR (.ref D) C (.ok .next) s1) :
  wpAny (model X.prog X.w) X.A (eval iter X.env) (λx O4=>wpAny (model X.prog X.w) X.A (pyIter x) (λit O8=>wpAny (model X.prog X.w) X.A (newList []) (λacc Y2 =>
   wpAny (model X.prog X.w) X.A (newFunctionEnv scope X.env.globals (zB9 X.env scope.names []) [] X.env.qual none .none (some X.env)) (λcenv Y8 =>
    codeAny (model X.prog X.w) X.A (.compStart (.ListComp elt [⟨tg,iter,ifs,0⟩] scope pos) 0 it acc { cenv with scope:=relabel scope X.env }) (RR acc cenv.locals) Y8) X.xe Y2) X.xe O8) X.xe O4) X.xe s:=by
 refine thn (d4 pins s σ H _ I h0) λv s1 h1=>thn h1 λitv P h2=>?_
 obtain⟨it,fp,tn,J,H2,rfl,O,T,a8,f2,n0,l0⟩:=h2;refine wpAny_newObj_type (zGi ?_);have e3:∃ s3:Shared,s3={ P with heap:=P.heap.push { cls:=.type "list",dict:=none,data:=.seq ([]:List Value).toArray } }:=⟨_,rfl⟩;obtain⟨s3,A⟩:=e3;rw[<- A];have eD:∃ D,D=P.heap.objs.size:=⟨_,rfl⟩;obtain⟨D,K⟩:=eD;rw[<- K];have hC:s3.heap.objs.size=D+1:=by rw[A,K];exact Heap.size_push ..
 have B:∀ b o,P.heap.get? b=some o->s3.heap.get? b=some o:=λb o q=>by rw[A];exact get?_push_of_some _ q
 have I3:Inv X pins σ H2 s3:=by rw[A];exact O.kept (t':=P.toks) λb o q=>get?_push_of_some _ q
 have oD:s3.heap.get? D=some { cls:=.type "list",data:=.seq ([]:List Value).toArray }:=by rw[A,K];exact get?_push_size _ rfl
 have a2:H2 D=none:=by rw[K];exact O.hok.fresh (le_refl _)
 have W:∀ b∈fp,b < D:=λb a=>by
  obtain⟨o,q,_⟩:=T.obj _ _ a8 b a;rw[K];exact lt_size q
 have c1:∀ b∈D::fp,FpOk X pins H2 b/\∃ o,s3.heap.get? b=some o:=λb a=>by
  rcases mem_cons.mp a with rfl | a
  .exact ⟨O.fpOk (by rw[K];exact le_refl _) a2,_,oD⟩
  .obtain ⟨o,q,_⟩:=T.obj _ _ a8 b a;exact⟨f2 b a,o,B b o q⟩
 have b8:(mask none ms σ++List.replicate xs.length none).length=(mask (noN X.N) ms X.N++xs).length:=by
  rw[qj,qj,zBF,zBF,length_replicate,I.len]
 have Ic:=zLs (fp:=D::fp) (N:=mask (noN X.N) ms X.N++xs) (σc:=mask none ms σ++List.replicate xs.length none) I3 c1 cs (λi x v q1 q2 q3=>by
  obtain⟨q2,c8⟩:=zCS q2;rcases zBl q2 with ⟨z,_⟩ | ⟨q2,ni⟩
  .cases z
  have d6:i < (mask (noN X.N) ms X.N).length:=by rw[zBF] at c8 ⊢;rw[<- I.len];exact c8
  rw[getElem?_append_left d6] at q1;rcases zBl q1 with ⟨_,z⟩ | ⟨q1,_⟩
  .exact absurd z ni
  refine⟨?_,i,q1,q2⟩;have no:ownB scope x=false:=by
   cases b:ownB scope x with
   | false=>rfl
   | true=>exact absurd (hm i x q1 b) ni
  unfold Vis relS at q3;rw[zDE] at q3;unfold ownB at no;cases w:scope.names.lookup x with
  | none=>rw[w] at q3;simp at q3
  | some k =>
   rw[w] at no;cases k with
   | free=>rfl
   | «local»=>cases no
   | cell=>cases no
   | _=>rw[w] at q3;simp at q3) b8
 have c6:tn 0 (pushCells (s3.heap.push { cls:=.type "dict",data:=.dict #[] }) scope.names):=T.keep 0 _ _ a8 λb a o q=>zAz _ _ b o (get?_push_of_some _ (B b o q))
 have a1:codeAny (model X.prog X.w) X.A (.compLoop (.ListComp elt [⟨tg,iter,ifs,0⟩] scope pos) 0 (.ref it) (.ref D) (zB6 scope X s3)) (RR (.ref D) s3.heap.objs.size) { s3 with heap:=pushCells (s3.heap.push { cls:=.type "dict",data:=.dict #[] }) scope.names }:=by
  refine zGH (λn s'=>∃ (i:Nat) (O1:St) (H':Hp) (vs:List V) (f:List Value),Inv (zAb X (mask (noN X.N) ms X.N++xs) scope s3 H2 (D::fp)) [] O1 H' s'/\tn i s'.heap/\(∀ b∈D::fp,H' b=none)/\s'.heap.PlainList D f.toArray/\Vals vs f/\L J H2 n i O1 H' vs) ?_ n0
   ⟨0,_,H2,[],[],Ic,c6,λb a=>(c1 b a).1.1,⟨_,zAz _ _ D _ (get?_push_of_some _ oD)⟩,.nil,l0⟩
  rintro n s' ⟨i,O1,H',vs,f,t,c9,a6,⟨nD,pl⟩,rv,ll⟩;have U:f.length<=10000:=by rw[<- rv.length];exact len ll
  have a7:∀ {b:Addr} {pn:List (Addr×Obj)} {Hx:Hp},b∈D::fp->Hx b=none->(∀ p∈pn,p.1≠b)->FpOk (zAb X (mask (noN X.N) ms X.N++xs) scope s3 H2 (D::fp)) pn Hx b:=λ{b pn Hx} a hn l =>
   ⟨hn,(t.ok.exf b a).1,t.ok.exfs b a,.inl a,(t.ok.exf b a).2,λp e5=>l p (show p∈pn from e5)⟩
  have b5:∀ {p:Addr×Obj} {h:Heap},p∈zCT [D] h->p.1=D:=λ{p h} l=>by simpa using (zFs l).1
  have I0:Inv (zAb X (mask (noN X.N) ms X.N++xs) scope s3 H2 (D::fp)) ([]++zCT [D] s'.heap) O1 H' s':=t.pinned (fp:=[D]) (λb a=>by
   have eb:b=D:=by simpa using a
   subst eb;exact a7 xy (a6 _ xy) λp l=>absurd l (by simp)) λb a=>by
   have eb:b=D:=by simpa using a
   subst eb;exact⟨_,pl,λv z=>by cases z⟩
  have d0:∀ b∈fp,FpOk (zAb X (mask (noN X.N) ms X.N++xs) scope s3 H2 (D::fp)) ([]++zCT [D] s'.heap) H' b:=λb a=>a7 (qY _ a) (a6 b (qY _ a)) λp l z=>by
   have q1:=b5 (by simpa using l);have q2:=W b a;rw[<- z,q1] at q2;exact absurd q2 (lt_irrefl _)
  have S:(D,_)∈zCT [D] s'.heap:=zCj (by simp) pl;rcases step s3 (D::fp) ll with ⟨d9,ze⟩ | ⟨n',hn',go,yl⟩
  case inr =>
   refine wpAny_mono (T.item (zAb X (mask (noN X.N) ms X.N++xs) scope s3 H2 (D::fp)) rfl rfl rfl F i ([]++zCT [D] s'.heap) s' O1 H' _ I0 d0 c9 go) (λr s4 c5=>?_) λ_ _ z=>z
   obtain⟨u,hr,h4⟩:=c5;subst hr;refine wpAny_mono h4 (λ_ s5 b7=>?_) λ_ _ z=>z
   obtain⟨x,H5,I5,r5,y5,M,j4⟩:=b7;obtain⟨rfl,hv⟩:=yl x H5 y5;have R:=(I5.pin (D,_) (xQ _ (xQ _ S))).1;have e0:Inv (zAb X (mask (noN X.N) ms X.N++xs) scope s3 H2 (D::fp)) ([]++zCT (D::fp) s5.heap) O1 H5 s5:=I5.unpinned.pinned (fp:=D::fp) (λb a=>a7 a (a6 b a) λp l=>absurd l (by simp)) λb a=>by
    rcases mem_cons.mp a with rfl | a
    .exact ⟨_,R,λv z=>by cases z⟩
    .exact T.obj _ _ M b a
   have e:∀ {Hx:Hp} {sx:Shared} {U1:St},Inv (zAb X (mask (noN X.N) ms X.N++xs) scope s3 H2 (D::fp)) ([]++zCT (D::fp) s5.heap) U1 Hx sx->∀ b∈D::fp,(∀ o,s5.heap.get? b=some o->sx.heap.get? b=some o)/\Hx b=none:=λ{Hx sx U1} Ix b a=>by
    have q:∃ o,s5.heap.get? b=some o:=by
     rcases mem_cons.mp a with rfl | a
     .exact ⟨_,R⟩
     .obtain ⟨o,q,_⟩:=T.obj _ _ M b a;exact⟨o,q⟩
    obtain⟨o,q⟩:=q;have w:=Ix.pin (b,o) (xQ _ (xQ _ (zCj a q)));exact⟨λo' q'=>by rw[q] at q';cases q';exact w.1,w.2.1⟩
   refine wpAny_mono (hv _ rfl _ s5 u _ e0 r5) (λ_ s6 h6=>wpAny_mono h6 (λok s7 h7=>?_) λ_ _ z=>z) λ_ _ z=>z
   cases ok with
   | false =>
    rw[if_neg qX] at h7 ⊢;obtain⟨O5,H7,I7,l7⟩:=h7;exact⟨n',hn',i+1,O5,H7,vs,f,I7.unpinned,T.keep _ _ _ M λb a o q=>(e I7 b (qY _ a)).1 o q,λb a=>(e I7 b a).2,⟨nD,(e I7 D xy).1 _ R⟩,rv,l7⟩
   | true =>
    rw[if_pos rfl] at h7 ⊢;refine wpAny_mono h7 (λuv s8 b6=>?_) λ_ _ z=>z
    obtain⟨v,O5,H8,I8,d5,l8⟩:=b6;have e2:=(e I8 D xy).1 _ R;refine wpAny_list_append_plain (hsz:=by rw[xX];exact zCy U) ⟨nD,e2⟩ λh9 e7 c4=>?_
    have I9:Inv (zAb X (mask (noN X.N) ms X.N++xs) scope s3 H2 (D::fp)) [] O5 H8 { s8 with heap:=h9 }:=I8.unpinned.turned (it:=D) (t':=s8.toks) (λb o a q=>c4.extBut b o a q) (e I8 D xy).2 (t.ok.exf D xy).1 (.inl xy) (t.ok.exf D xy).2 λp l=>absurd (show p∈([]:List (Addr×Obj)) from l) (by simp)
    refine⟨n',hn',i+1,O5,H8,vs++[v],f++[uv],I9,T.keep _ _ _ M λb a o q=>c4.extBut b o (λz=>?_) ((e I8 b (qY _ a)).1 o q),λb a=>(e I8 b a).2,?_,rv.append (.cons d5 .nil),l8⟩
    .have:=W b a;rw[z] at this;exact absurd this (lt_irrefl _)
    .have ea:f.toArray.push uv=(f++[uv]).toArray:=by simp
     rw[<- ea];exact e7
  case inl =>
   refine wpAny_mono (T.done (zAb X (mask (noN X.N) ms X.N++xs) scope s3 H2 (D::fp)) rfl rfl rfl F _ ([]++zCT [D] s'.heap) s' O1 H' _ I0 d0 c9 d9) (λr s4 c0=>?_) λ_ _ z=>z
   obtain⟨hr,j⟩:=c0;subst hr;obtain⟨m,ns,_⟩:=id j.loc;have eC:(zAb X (mask (noN X.N) ms X.N++xs) scope s3 H2 (D::fp)).env.locals=D+1:=hC;rw[eC] at ns;have b9:=j.pin (D,_) (xQ _ (xQ _ S));have HD:H' D=none:=b9.2.1;have HC:H' (D+1)=none:=by have:=j.free;rw[eC] at this;exact this
   have CD:D≠D+1:=ne_of_lt (Nat.lt_succ_self D);have a4:∀ {b:Addr} {o:HO},H' b=some o->b≠D:=λ{b o} q z=>by rw[z,HD] at q;cases q
   have a3:∀ {b:Addr} {o:HO},H2 b=some o->b≠D:=λ{b o} q z=>by rw[z,a2] at q;cases q
   have b1:∀ {b:Addr} {o:Obj},P.heap.get? b=some o->b < D:=λ{b o} q=>by rw[K];exact lt_size q
   have g:∀ {b:Addr} {o:Obj},P.heap.get? b=some o->b∉fp->b∉D::fp:=λ{b o} q Q z=>(mem_cons.mp z).elim (λz=>absurd (b1 q) (by rw[z];exact lt_irrefl _)) Q
   have b2:∀ {b:Addr} {o:Obj},P.heap.get? b=some o->b≠D+1:=λ{b o} q=>ne_of_lt (Nat.lt_succ_of_lt (b1 q))
   have a5:P.heap.objs.size<=D+1:=by rw[<- K];exact Nat.le_succ _
   show RR (.ref D) s3.heap.objs.size (.ok .next) s4;rw[hC];refine e8 D (D+1) s4 (upd H' D (.lst vs)) m ns (λh' sb=>?_) ?_ (Nat.ne_of_gt (xJ O.lt a5)) (O.nofs a5) (le_trans O.sz a5) (λx c q z=>?_) (λp l z=>?_) ⟨H2,H',vs,ze,a2,HD,rfl⟩
   .refine O.call' (s':={ s4 with heap:=h' }) (ch:=fp) ?_ ⟨λb o q n a Q=>sb.extBut b o (b2 q) (j.base.keep b o (B b o q) n a (g q Q)),λb o q n a Q=>?_,λb o q n Q=>?_,λb o q Q=>?_,λb ws q=>?_,λb o w q=>?_,λb ps q=>?_⟩ (λb w q=>?_) j.bare λb a=>?_
    .have:=j.os;rw[A] at this;exact this
    .obtain ⟨sl,w⟩:=j.base.slot b o (B b o q) n a (g q Q);exact⟨sl,sb.extBut b _ (b2 q) w⟩
    .rw [zAI (ne_of_lt (b1 q))];exact j.base.free b o (B b o q) n (g q Q)
    .obtain ⟨o',w⟩:=j.base.there b o (B b o q) (g q Q);exact⟨o',sb.extBut b _ (b2 q) w⟩
    .rw [zAI (a3 q)];exact j.base.tups b ws q
    .rw [zAI (a3 q)];exact j.base.frzs b o w q
    .rw [zAI (a3 q)];exact j.base.tbls b ps q
    .by_cases z:b=D
     .subst z;rw[zAJ] at q;cases q;exact⟨by rw[rv.length];exact zCy U,f,nD,rv,sb.extBut b _ CD b9.1⟩
     .rw [zAI z] at q;refine(j.hok b w q).stay (λd v hd G=>sb.extBut d v (λz'=>?_) G) (λd G=>by rw[zAI (a4 G)];exact G) (λd ws G=>by rw[zAI (a4 G)];exact G) λd ob u G _=>by rw[zAI (a4 G)];exact G
      rcases hd with hd | hd
      .rw [<- hd,z',HC] at q;cases q
      .rw [z',HC] at hd;cases hd
    .obtain ⟨f0,f1,j3,f3,f4,f5⟩:=f2 b a;exact⟨f3,f1,f4,f5⟩
   .rw [zAI (Ne.symm CD)];exact HC
   .obtain ⟨v,w⟩:=O.cell x c q;have:=w.lt;rw[z,<- K] at this;exact absurd (Nat.lt_trans this (Nat.lt_succ_self D)) (lt_irrefl _)
   .have:=lt_size (O.pin p l).1;rw[z,<- K] at this;exact absurd (Nat.lt_trans this (Nat.lt_succ_self D)) (lt_irrefl _)
 exact codeAny_compStart_list a1 (T.self X.A 0 _ _ _ c6 a1)
theorem zGF (hcalm:X.calm=true)(hi:GI X tg iter f)(cs:zCW X.env.scope scope)
  (hm:∀ (i:Nat) x,X.N[i]?=some x->ownB scope x=true->i∈ms)
  (hg:∀ s H fp,GG (zAb X (mask (noN X.N) ms X.N++xs) scope s H fp) tg t)
  (hc:∀ s H fp,GCs (zAb X (mask (noN X.N) ms X.N++xs) scope s H fp) ifs c) (he:∀ s H fp,GE (zAb X (mask (noN X.N) ms X.N++xs) scope s H fp) elt e)
    {σ:St}     (I:Inv X pins σ H s) (ds:DS X.K H S σ G) (ez:f G=some zs) (hz:zs.length<=10000) (ey:zGI t c e zs (mask none ms G++List.replicate xs.length none)=some ys)
  {RR:Value->Addr->Result->Shared->Prop}
  (fin:∀ (D C:Addr) (s1:Shared) (H'':Hp) (m:Str->Option Value),s1.heap.Ns C m->(∀ h',Heap.SameBut C s1.heap h'->Inv X pins σ H'' { s1 with heap:=h' })->H'' C=none->C≠X.env.locals->C∉X.fs->X.s0.heap.objs.size<=C ->
   (∀ x c,X.env.cells.lookup x=some c->c≠C)->(∀ p∈X.pn++pins,p.1≠C)->Same H H''->RV X.K H H'' S (.lst ys,.fr) (.ref D)->RR (.ref D) C (.ok .next) s1) :
  wpAny (model X.prog X.w) X.A (eval iter X.env) (λx O4=>wpAny (model X.prog X.w) X.A (pyIter x) (λit O8=>wpAny (model X.prog X.w) X.A (newList []) (λacc Y2 =>
   wpAny (model X.prog X.w) X.A (newFunctionEnv scope X.env.globals (zB9 X.env scope.names []) [] X.env.qual none .none (some X.env)) (λcenv Y8 =>
    codeAny (model X.prog X.w) X.A (.compStart (.ListComp elt [⟨tg,iter,ifs,0⟩] scope pos) 0 it acc { cenv with scope:=relabel scope X.env }) (RR acc cenv.locals) Y8) X.xe Y2) X.xe O8) X.xe O4) X.xe s:=by
 obtain⟨wi,hwi,hI⟩:=hi;refine zHh hcalm hwi cs hm I (L:=λJ H2 n i O1 H' vs=>(Same H H2/\∀ (i:Nat) H3,i<=zs.length->Same (hide H2 S) H3->(i=zs.length->J.stop i H3)/\(i < zs.length->J.go i H3/\∀ v H4,J.yld i H3 v H4->H4=H3/\∀ x,zs[i]?=some x->Den X.K (hide H2 S) x v)) /\
   ∃ (G':Dst) (done more:List DL.D),DS X.K H' S O1 G'/\Same H2 H'/\DenL X.K (hide H' S) done vs/\zGI t c e (zs.drop i) G'=some more/\done++more=ys/\i<=zs.length/\done.length<=i/\n=zs.length - i) (Z:=λH2 H' vs=>Same H H2/\Same H2 H'/\DenL X.K (hide H' S) ys vs)
  (hI σ H S G zs _ ds ez λJ H1 s1 hJ=>⟨_,⟨s1,hJ⟩,_,[],ys,(ds.mono s1).ext ms xs.length,Same.refl _,.nil,by rw[List.drop_zero];exact ey,rfl,zero_le _,le_refl _,rfl⟩) (λ{J H2 n i O1 H' vs} ll=>?_) (λ{J H2 n i O1 H' vs} s3 fp ll=>?_) λD C s1 H'' m h1 h2 h3 h4 h5 h6 h7 h8 ll=>?_
 .obtain ⟨_,G',done,more,_,_,dn,_,_,hi',hl',_⟩:=ll;rw[<- dn.length];exact le_trans hl' (le_trans hi' hz)
 .obtain ⟨⟨s12,hJ⟩,G',done,more,ds',sm,dn,ec,ed,hi',hl',rfl⟩:=ll;obtain⟨j1,j2⟩:=hJ i H' hi' (zAi.trans sm);by_cases hlt:i < zs.length
  case neg =>
   rw[List.drop_eq_nil_of_le (by omega)] at ec;cases ec;rw[append_nil] at ed;exact .inl ⟨j1 (by omega),s12,sm,ed▸dn⟩
  obtain⟨go,yl⟩:=j2 hlt;refine .inr ⟨zs.length - (i+1),by omega,go,λx H5 y5=>?_⟩;obtain⟨rfl,hv⟩:=yl x H5 y5;refine⟨rfl,λY eY pn s5 u E I5 r5=>?_⟩;subst eY;rw[List.drop_eq_getElem_cons hlt] at ec;obtain⟨Y1,e1,ec⟩:=bind_some ec;obtain⟨b,eb,ec⟩:=bind_some ec;obtain⟨g,hg1,hg2⟩:=hg s3 H2 fp;have dx:Den X.K (hide H5 S) zs[i] x:=(hv _ (by simp[hlt])).mono (zAP sm);refine wpAny_mono (hg1 pn s5 O1 H5 x u _ I5 r5 (hg2 X.K rfl zs[i] x O1 H5 S G' Y1 (λO5 H6=>H6=H5/\DS X.K H5 S O5 Y1) ds' dx e1 λO5 d6=>⟨rfl,d6⟩)) (λ_ s6 zz71=>?_) λ_ _ z=>z.elim
  obtain⟨O5,H6,I6,q6,ds6⟩:=zz71;subst q6;refine wpAny_mono (hc s3 H2 fp pn s6 O5 H6 (λb' H7=>b'=b/\Same H6 H7) I6 ⟨S,Y1,b,ds6,eb,λH7 s7=>⟨rfl,s7⟩⟩) (λok s7 zz72=>?_) λ_ _ z=>z.elim
  obtain⟨H7,I7,q7,s67⟩:=zz72;subst q7;cases ok with
  | false =>
   rw[if_neg qX] at ec ⊢;exact⟨O5,H7,I7,⟨s12,hJ⟩,Y1,done,more,ds6.mono s67,sm.trans s67,dn.mono (zAP s67),ec,ed,hlt,Nat.le_succ_of_le hl',rfl⟩
  | true =>
   rw[if_pos rfl] at ec ⊢;obtain⟨r,er,ec⟩:=bind_some ec;by_cases hr:r.2=.dt
   .rw [if_pos hr] at ec;cases ec
   rw[if_neg hr] at ec;obtain⟨more',em,ec⟩:=bind_some ec;cases ec;refine wpAny_mono (he s3 H2 fp pn s7 O5 H7 (λv H8=>Same H7 H8/\RV X.K H7 H8 S r v) I7 ⟨S,Y1,r,ds6.mono s67,er,λv H8 s8 r8=>⟨s8,r8⟩⟩) (λuv s8 zz73=>?_) λ_ _ z=>z.elim
   obtain⟨v,H8,I8,rv8,s78,r8⟩:=zz73;exact⟨v,O5,H8,I8,rv8,⟨s12,hJ⟩,Y1,done++[r.1],more',ds6.mono (s67.trans s78),sm.trans (s67.trans s78),(dn.mono (zAP (s67.trans s78))).append (.cons (RV.den (d:=r.1) (k:=r.2) r8 hr) .nil),em,by rw[qJ];exact ed,hlt,by rw[qj,List.length_singleton];omega,rfl⟩
 .obtain ⟨H2,H',vs,⟨s12,sm,dn⟩,H2D,HD,rfl⟩:=ll;have neD:∀ {b:Addr} {o:HO},H' b=some o->b≠D:=λ{b o} q z=>by rw[z,HD] at q;cases q
  refine fin D C s1 _ m h1 h2 h3 h4 h5 h6 h7 h8 (λb o q=>?_) ⟨D,vs,ys,rfl,rfl,λz=>?_,s12.free H2D,zAJ,dn.mono λb o q=>?_⟩
  .have w:=sm b o (s12 b o q);rw[zAI (neD w)];exact w
  .obtain ⟨ws,w,_⟩:=(ds.mono s12).sok D z;rw[H2D] at w;cases w
  .obtain ⟨q1,q2⟩:=zA5 q;rw[zAQ λz=>(mem_cons.mp z).elim (neD q2) q1,zAI (neD q2)];exact q2
theorem zCn (cs:zCW sc scope):∀ x∈scope.names,x.2=.local->scope.names.lookup x.1=some .local:=λx a e=>by
 have:=zCk cs.nd a
 simp_all
theorem zJ9 (a:X.calm=true)(j:GI X tg iter f)(E:∀ x,foldedSetIterable iter X.env x=pure x)(cs:zCW X.env.scope scope)
  (B:∀ (i:Nat) x,X.N[i]?=some x->ownB scope x=true->i∈ms)
  (u:∀ s H fp,GG (zAb X (mask (noN X.N) ms X.N++xs) scope s H fp) tg t)
  (p:∀ s H fp,GCs (zAb X (mask (noN X.N) ms X.N++xs) scope s H fp) ifs c) (l:∀ s H fp,GE (zAb X (mask (noN X.N) ms X.N++xs) scope s H fp) elt e) :
  GE X (.ListComp elt [⟨tg,iter,ifs,0⟩] scope pos) (zIT ms xs.length f t c e):=by
 intro g s σ H Q I ⟨S,G,z,q,b,n⟩;obtain⟨k,A,b⟩:=bind_some b;by_cases hz:k.length<=10000
 .rw [if_pos hz] at b;obtain⟨J,v,b⟩:=bind_some b;cases b;refine wpAny_comprehension_free (use:=none) rfl E (zBn (zEH I cs)) cs.kind (zCn cs) ?_;refine zGF a j cs B u p l I q A hz v λD C F d m y o _ _ _ _ _ _ h w=>?_
  exact⟨m,y,λh' r=>⟨.ref D,d,o h' r,rfl,n _ d h w⟩⟩
 .simp_all
theorem zPB (d:X.calm=true)(P:GI X tg iter f)(U:∀ x,foldedSetIterable iter X.env x=pure x)(cs:zCW X.env.scope scope)
  (R:∀ (i:Nat) x,X.N[i]?=some x->ownB scope x=true->i∈ms)
  (O:∀ s H fp,GG (zAb X (mask (noN X.N) ms X.N++xs) scope s H fp) tg t)
  (hc:∀ s H fp,GCs (zAb X (mask (noN X.N) ms X.N++xs) scope s H fp) ifs c) (he:∀ s H fp,GE (zAb X (mask (noN X.N) ms X.N++xs) scope s H fp) elt e)
  (W:X.N.Nodup) (hy:X.N[i]?=some y) (hl:Loc X.env.scope y) (hf:X.fn y=true\/X.env.scope.names.lookup y=some .local) :
  GS X (.Assign [.Name y py] (.ListComp elt [⟨tg,iter,ifs,0⟩] scope pos) spos) (setD i (zIT ms xs.length f t c e)):=by
 have K:GE X (.ListComp elt [⟨tg,iter,ifs,0⟩] scope pos) (zIT ms xs.length f t c e):=zJ9 d P U cs R O hc he;have h:∃ b,swapsWith (.ListComp elt [⟨tg,iter,ifs,0⟩] scope pos) (some (.Name y py)) spos.line X.env=pure b:=⟨_,rfl⟩;obtain⟨b,h⟩:=h;cases b with
 | false=>exact zNT W hy hl K h hf
 | true =>
  intro H0 a s σ H E I ⟨S,G,o,V,h0,L,p⟩;obtain⟨r,er,L⟩:=bind_some L;obtain⟨zs,e1,j⟩:=bind_some er;by_cases hz:zs.length<=10000
  .rw [if_pos hz] at j;obtain⟨ys,e2,j⟩:=bind_some j;cases j;rw[exec_Assign_Name_used _ _ _ _ h];refine qQ (wpAny_standAt (qQ ?_));show wpAny _ X.A (do let _<-comprehension (.ListComp elt [⟨tg,iter,ifs,0⟩] scope pos) scope X.env _ (newList []) false (eval iter X.env) (some (assign (.Name y py) X.env))) _ _ s;refine qQ (wpAny_mono (wpAny_comprehension_free (use:=some (assign (.Name y py) X.env)) (Q:=λ_ v=>SP X a E .next v) rfl U (zBn (zEH I cs)) cs.kind (zCn cs) ?_) (λ_ v F=>xj (xj F)) λ_ _ e=>e);refine zGF (RR:=λacc C=>compPost (model X.prog X.w) X.A X.xe (some (assign (.Name y py) X.env)) (λ_ v=>SP X a E .next v) acc C) d P cs R O hc he I V e1 hz e2 λD C u g m ns hI n l N M B J sm rv=>?_
   have T:Inv X a σ g u:=hI u.heap (Heap.SameBut.refl ..);obtain⟨w,es,ep,ho,Z,w3⟩:=id ns;have I2:Inv X (a++[(C,w)]) σ g u:=T.pins_of λq F=>(mem_append.mp F).elim (λz=>T.pin q (xQ _ z)) λz=>by
    have e:q=(C,w):=by simpa using z
    subst e;exact⟨ho,n,l,N,λv z=>by rw[Z] at z;cases z⟩
   show wpAny (model X.prog X.w) X.A (assign (.Name y py) X.env (.ref D)) _ X.xe u;refine thn (zE4 W hy hl hf _ u σ g (.ref D) (.ref D) (λO5 A=>A=g/\O5=σ.set i (some (.ref D))) I2 rfl ⟨rfl,rfl⟩) λ_ s6 k=>?_
   obtain⟨O5,A,Y,q1,q2⟩:=k;subst q1 q2;have pc:=Y.pin (C,w) (xQ _ (xQ _ (by simp)));refine⟨m,⟨w,es,ep,pc.1,Z,w3⟩,λh' sb=>?_⟩;refine⟨_,A,Y.unpinned.turned (it:=C) (t':=s6.toks) (λb o h q=>sb.extBut b o h q) n (Ne.symm (Ne.symm l)) (.inr M) B J,?_⟩;exact zEV V h0 sm rv L p
  .rw [if_neg hz] at j;cases j
end
section
variable {X:Cx}{tg:Expr}
def iAny (K:W.Frag)(tl:TE):TI:=fun σ H R=>tl σ H λx H1=>∃ a,x=.ref a/\(((∃ xs,SqL K H1 a xs)/\R (Itl K a) H1)\/((∃ xs,SqT K H1 a xs)/\R (Itt K a) H1))
theorem zM9 (r:PE X l tl):PI X tg l (iAny X.K tl):=by
 intro i s σ H R I h;refine thn (r i s σ H _ I h) λv c g=>?_
 obtain⟨x,m,d,r1,t⟩:=g;obtain⟨a,e,q⟩:=t;subst e;cases r1;rcases q with ⟨⟨v,j⟩,q⟩ | ⟨⟨v,j⟩,q⟩
 .obtain ⟨f,n,p,u⟩:=d.list j;refine wpAny_pyIter_list p.isList ?_;refine⟨c.heap.objs.size,[c.heap.objs.size],_,_,m,rfl,d.kept (t':=c.toks) λb o e=>get?_push_of_some _ e,zIe a _,⟨_,get?_push_size _ rfl,rfl,rfl⟩,λb k=>?_,q⟩;have e:b=c.heap.objs.size:=by simpa using k
  subst e;exact d.fpOk (le_refl _) (d.hok.fresh (le_refl _))
 .obtain ⟨f,n,p,u⟩:=d.tuple j;refine wpAny_pyIter_tuple (show c.heap.IsTuple a f.toArray from p) ?_;refine⟨c.heap.objs.size,[c.heap.objs.size],_,_,m,rfl,d.kept (t':=c.toks) λb o e=>get?_push_of_some _ e,zHw a _,⟨_,get?_push_size _ rfl,rfl,rfl⟩,λb k=>?_,q⟩;have e:b=c.heap.objs.size:=by simpa using k
  subst e;exact d.fpOk (le_refl _) (d.hok.fresh (le_refl _))
noncomputable def zJp (f:Dst->Option R):Dst->Option (List D):=λG=>match f G with
 | some (.lst ds,.cl)=>some ds
 | some (.lst ds,.fr)=>some ds
 | some (.tup ds,.cl)=>some ds
 | _=>none
theorem zRj (h:GE X iter f):GI X tg iter (zJp f):=by
 refine⟨_,zM9 h,fun σ H S G xs Rr ds e q=>?_⟩;have o:∀ {k:Kd},k≠.dt->f G=some (.lst xs,k)->iAny X.K (gT X.K f) σ H Rr:=λ{k} E B=>by
  refine⟨S,G,_,ds,B,λv p r r1=>?_⟩;have n:=RV.den (d:=.lst xs) (k:=k) r1 E;rw[Den] at n;obtain⟨a,b,rfl,m,l⟩:=n;refine⟨a,rfl,.inl ⟨⟨b,zAi.seq m⟩,q _ p r λi D A t=>?_⟩⟩;have j:=t.seq m;refine⟨λei=>⟨b,j,by rw[<- l.length,ei];exact le_refl _⟩,λhl=>?_⟩;have g:i < b.length:=by rw[<- l.length];exact hl
  refine⟨⟨b,b[i],j,by simp[g]⟩,λv C y=>⟨y.1,λx s=>?_⟩⟩;have w:=y.2 b j;obtain⟨u,c,x⟩:=l.get s
  simp_all
 unfold zJp at e;split at e
 .rename_i c;cases e;exact o (by decide) c
 .rename_i c;cases e;exact o (by decide) c
 .rename_i c;cases e;refine⟨S,G,_,ds,c,λv p r r1=>?_⟩;have n:Den X.K (hide p S) (.tup xs) v:=r1;rw[Den] at n;obtain⟨a,b,rfl,m,l⟩:=n;refine⟨a,rfl,.inr ⟨⟨b,Same.tupS zAi m⟩,q _ p r λi D A t=>?_⟩⟩;have j:=Same.tupS t m;refine⟨λei=>⟨b,j,by rw[<- l.length,ei];exact le_refl _⟩,λhl=>?_⟩;have g:i < b.length:=by rw[<- l.length];exact hl
  refine⟨⟨b,b[i],j,by simp[g]⟩,λv C y=>⟨y.1,λx s=>?_⟩⟩;have w:=y.2 b j;obtain⟨u,c,x⟩:=l.get s;rw[w] at c;cases c;exact x
 .cases e
noncomputable def Itr3 (lo c:Int)(n:Nat):It:=⟨λi _=>i < n,λi H x H'=>H'=H/\x=.int (lo+i*c),λi _=>n<=i⟩
theorem zGV {P:Program}{w:World}{K:W.Frag}{D:Expr}(it:Addr)(j c:Int)(n:Nat):Turn P w K D (Itr3 j c n) [it] it (λi h=>IsRangeIter h it (j+(i:Nat)*c) ((n:Int) - (i:Nat)) c) where
 mem:=by simp
 obj:=λi h d b f=>by
  simp_all
 keep:=λi h x d k=>k it (by simp) _ d
 item:=by
  intro X y r z A i a s σ H E I l d B;subst y r z;obtain⟨q,v,F,m,p,u⟩:=l it (by simp);have W:=Walks.range (prog:=X.prog) (w:=X.w) (I.ok.hd A) it j c n;refine W.item i s _ _ B d λv x C M g J=>?_
  obtain⟨t,rfl⟩:=M;have L:Inv X a σ H { s with heap:=x,toks:=C }:=I.turned (λb o f e=>J b o (by simpa using f) e) q v m p u;exact⟨_,rfl,zMB (s:={ s with heap:=x,toks:=C }) (n := "range_iterator") g rfl rfl (by decide) ⟨.int (j+i*c),H,L,⟨t,rfl⟩,⟨rfl,rfl⟩,g,λb f=>(l b f).1⟩⟩
 done:=by
  intro X y r z A i a s σ H E I l d B;subst y r z;obtain⟨q,v,F,m,p,u⟩:=l it (by simp);exact wpAny_pyNext_range_end (I.ok.hd A) d (by have:n<=i:=B;omega) λh' G=>⟨rfl,I.turned (t':=s.toks) (λb o f e=>G b o f e) q v m p u⟩
 self:=λ_ _ _ _ _ d h=>wpAny_pyIter_rangeiter d h
theorem zGX (a b c:Int)(d:c≠0):0<=Builtin.Range.rangeSize a b c:=by
 unfold Builtin.Range.rangeSize;split
 .split
  .have:=Int.ediv_nonneg (a:=b - a - 1) (b:=c) (by omega) (by omega);omega
  .simp
 .split
  .have:=Int.ediv_nonneg (a:=a - b - 1) (b:=-c) (by omega) (by omega);omega
  .simp
def ROk (a b c:Int):Prop:=c≠0/\c.natAbs < 1073741824/\Builtin.Range.small a b c=true
noncomputable instance (a b c:Int):Decidable (ROk a b c):=by unfold ROk;exact inferInstance
theorem zIw {σ:St}{R:It->Hp->Prop}{lo:Int}(I:Inv X pins σ H s)(ok:ROk lo hi c)
  (q:R (Itr3 lo c (Builtin.Range.rangeSize lo hi c).toNat) H):wpAny (model X.prog X.w) X.A (pyIter (.ref s.heap.objs.size)) (PIE X pins σ tg R) E { s with heap:=s.heap.push { cls:=.type "range",data:=.fields #[.int lo t,.int hi u,.int c v] },toks:=tk }:=by
 refine wpAny_pyIter_range (IsRange.new ..) ok.2.2 ?_;have I1:Inv X pins σ H { s with heap:=s.heap.push { cls:=.type "range",data:=.fields #[.int lo t,.int hi u,.int c v] },toks:=tk }:=I.kept λb o e=>get?_push_of_some _ e
 refine⟨(s.heap.push { cls:=.type "range",data:=.fields #[.int lo t,.int hi u,.int c v] }).objs.size,[(s.heap.push { cls:=.type "range",data:=.fields #[.int lo t,.int hi u,.int c v] }).objs.size],_,_,H,rfl,
  I1.kept λb o e=>get?_push_of_some _ e,zGV _ lo c (Builtin.Range.rangeSize lo hi c).toNat,?_,λb hb=>?_,q⟩
 .have e1:lo+((0:Nat):Int)*c=lo:=by simp
  have e2:(((Builtin.Range.rangeSize lo hi c).toNat:Nat):Int) - ((0:Nat):Int)=Builtin.Range.rangeSize lo hi c:=by have:=zGX lo hi c ok.1;omega
  rw[e1,e2];exact get?_push_size _ rfl
 .have e:b=(s.heap.push { cls:=.type "range",data:=.fields #[.int lo t,.int hi u,.int c v] }).objs.size:=by simpa using hb
  subst e;exact I1.fpOk (le_refl _) (I1.hok.fresh (le_refl _))
def zSy (ta:TA):TI:=fun σ H R=>ta σ H λvs H1=>∃ i j c:Int,vs=[.int i,.int j,.int c]/\ROk i j c/\R (Itr3 i c (Builtin.Range.rangeSize i j c).toNat) H1
theorem zI4 (y:Gl X "range")(u:X.mg "range"=none)(v:PA X [a,b,c] ta)(z:starEach [a,b,c] X.env=[(false,eval a X.env),(false,eval b X.env),(false,eval c X.env)])(f:starEach [b,c] X.env=[(false,eval b X.env),(false,eval c X.env)]) :
  PI X tg (.Call (.Name "range" p) [a,b,c] [] pos) (zSy ta):=by
 intro g s σ H R I h;refine Call_ (zCa I y u boot_range (PyProof.Rows.callWith_type1 (thn (v pos g s σ H _ I h) λus C d=>?_) (by rw[z,f]) (by rw[f];rfl)));obtain⟨D,B,o,r1,w⟩:=d;obtain⟨i,j,k,e,ok,q⟩:=w;subst e;cases r1 with
 | cons r l =>
  cases l with
  | cons n l =>
   cases l with
   | cons m l =>
    cases l;obtain⟨t,rfl⟩:=r;obtain⟨A,rfl⟩:=n;obtain⟨x,rfl⟩:=m;exact call_range_3 ok.1 (zIw o ok q) (.inl (PyProof.noPylong_small ok.2.1))
noncomputable def rngS (lo c:Int)(n:Nat):List D:=(List.range n).map λ(k:Nat)=>D.int (lo+k*c)
theorem zH0 {K:W.Frag}{lo:Int}(i:Nat)(H2:Hp)(hi:i<=(rngS lo c n).length):(i=(rngS lo c n).length->(Itr3 lo c n).stop i H2)/\(i < (rngS lo c n).length->(Itr3 lo c n).go i H2/\∀ v H3,(Itr3 lo c n).yld i H2 v H3->H3=H2/\∀ x,(rngS lo c n)[i]?=some x->Den K (hide H1 S) x v):=by
 have hl:(rngS lo c n).length=n:=by unfold rngS;simp
 refine⟨λe=>by rw[hl] at e;exact Nat.le_of_eq e.symm,λh=>⟨by rw[hl] at h;exact h,λv H3 y=>⟨y.1,λx ex=>?_⟩⟩⟩;rw[hl] at h;have:(rngS lo c n)[i]?=some (D.int (lo+i*c)):=by unfold rngS;simp[h]
 rw[this] at ex;cases ex;exact y.2
noncomputable def zN6 (f g h:Dst->Option R):Dst->Option (List D):=λG=>match f G,g G,h G with
 | some (.int i,_),some (.int j,_),some (.int c,_)=>if ROk i j c then some (rngS i c (Builtin.Range.rangeSize i j c).toNat) else none
 | _,_,_=>none
theorem zJ4 (s:Gl X "range")(v:X.mg "range"=none)(A:GE X a f)(D:GE X b g)(C:GE X c h)(w:starEach [a,b,c] X.env=(false,eval a X.env)::starEach [b,c] X.env)(l:starEach [b,c] X.env=(false,eval b X.env)::starEach [c] X.env)(d:starEach [c] X.env=[(false,eval c X.env)]) :
  GI X tg (.Call (.Name "range" p) [a,b,c] [] pos) (zN6 f g h):=by
 refine⟨_,zI4 s v (zAR A (zAR D (zAR C zAs d) l) w) (by simp_all) (by rw[l,d]),fun σ H S G xs Rr ds e q=>?_⟩;unfold zN6 at e;split at e
 .rename_i i k j F o E t y x;by_cases hj:ROk i j o
  .rw [if_pos hj] at e;cases e;exact⟨S,G,_,ds,t,λv I m r1=>⟨S,G,_,ds.mono m,y,λu r n r2=>⟨S,G,_,ds.mono (m.trans n),x,λu3 z B r3=>⟨i,j,o,by rw[r1.rd.int,r2.rd.int,r3.rd.int],hj,q _ z (m.trans (n.trans B)) λi r u _=>zH0 i r u⟩⟩⟩⟩
  .simp_all
 .cases e
end
end DL
end
section
namespace DL
open PySem
abbrev zCh (h:Heap) (z TI TO:Addr) (f0 f1:Value):Prop :=
 h.get? z=some { cls:=.type "zip",dict:=none,data:=.fields #[f0,f1,.bool false,.ref TI,.ref TO],slots:=#[] }
section
variable {prog:Program}{w:World}{A:Around}{E:Value->Shared->Prop}{s:Shared}
theorem zLB (h:Q (s.heap.get? a) s):wpAny M A (loadIfAlive a) Q E s:=λJ p b=>by
 assumption
theorem zEY {T:Addr}(hz:zCh s.heap z TI TO (rawInt T) (.bool f1))(c:s.heap.get? T=some oT)
  (b:∀ h' f1',zCh h' z TI TO (rawInt T) (.bool f1')->Heap.SameBut z s.heap h'->Q false { s with heap:=h' }) :
  wpAny (model prog w) A (Builtin.SmallTypes.ownedTupleIsFree (.ref z)) Q E s:=by
 refine qQ (wpAny_field hz rfl (x:=rawInt T) rfl ?_);refine qQ (zLB ?_);rw[toNat_natCast,c];refine qQ (wpAny_field hz rfl (x:=.bool f1) rfl ?_);cases f1 with
 | true =>
  have e:((Value.bool true) != .bool true)=false:=by simp
  rw[e];exact xj (b s.heap true hz (Heap.SameBut.refl ..))
 | false =>
  have e:((Value.bool false) != .bool true)=true:=by simp
  rw[e];simp only[if_true];refine qQ (wpAny_setField_rec hz (by simp) λO7 a d=>?_);exact xj (b O7 true a d)
theorem zEo {T:Addr}{Q:Value->Shared->Prop}(D:ZipApart z TI TO i1 i2 l1 l2)
  (hz:zCh s.heap z TI TO (rawInt T) (.bool f1)) (t:s.heap.get? T=some oT) (k:IsPair s.heap TI (.ref i1) (.ref i2))
  (G:s.heap.IsListIter i1 l1 k1) (B:s.heap.IsListIter i2 l2 k2) (g:s.heap.IsList l1 xs) (l:s.heap.IsList l2 ys) (F:xs[k1]?=some x) (q:ys[k2]?=some y)
  (u:∀ h' f1',zCh h' z TI TO (rawInt T) (.bool f1')->h'.IsListIter i1 l1 (k1+1)->h'.IsListIter i2 l2 (k2+1)->IsPair h' s.heap.objs.size x y->h'.objs.size=s.heap.objs.size+1 ->
   (∀ c o,c≠z->c≠i1->c≠i2->s.heap.get? c=some o->h'.get? c=some o)->Q (.ref s.heap.objs.size) { s with heap:=h' }) :
  wpAny (model prog w) A (Builtin.«zip.__next__» ⟨[.ref z],[]⟩) (λfin s'=>∃ v,fin=.done (.ret v)/\Q v s') E s:=by
 show wpAny _ _ (field (.ref z) 2>>=_) _ _ _;refine qQ (wpAny_field hz rfl (x:=.bool false) rfl ?_);show wpAny _ _ (field (.ref z) 3>>=_) _ _ _;refine qQ (wpAny_field hz rfl (x:=.ref TI) rfl ?_);refine qQ (wpAny_seqItems k rfl ?_);show wpAny _ _ (Builtin.SmallTypes.ownedTupleIsFree (.ref z)>>=_) _ _ _;refine qQ (zEY hz t λO7 f1' j b=>?_);simp only[Bool.false_eq_true,if_false];refine qQ ?_;simp only[<- Array.forIn_toList,forIn_cons,List.forIn_nil];refine qQ (qQ (wpAny_holding ?_));show wpAny _ _ (Builtin.SmallTypes.nextOf (.ref i1)>>=_) _ _ _;refine qQ (wpAny_nextOf_list_item (G.extBut b.extBut D.i1z) (g.extBut b.extBut D.l1z) F λY6 r d=>xj ?_);refine xj ?_;refine qQ (qQ (wpAny_holding ?_));show wpAny _ _ (Builtin.SmallTypes.nextOf (.ref i2)>>=_) _ _ _;refine qQ (wpAny_nextOf_list_item ((B.extBut b.extBut D.i2z).extBut d.extBut D.i12.symm) ((l.extBut b.extBut D.l2z).extBut d.extBut D.l2i1) q λY9 h f=>xj ?_);refine xj (xj ?_);refine qQ (wpAny_newTuple ?_ (show 2<=sizeLine by decide));have a:Y9.objs.size=s.heap.objs.size:=by rw[f.1,d.1,b.1]
 have i:zCh Y9 z TI TO (rawInt T) (.bool f1'):=f.extBut _ _ D.i2z.symm (d.extBut _ _ D.i1z.symm j);refine xj ⟨_,rfl,?_⟩;show Q (.ref Y9.objs.size) _;rw[a];refine u _ f1' (get?_push_of_some _ i) ((r.extBut f.extBut D.i12).at λo e=>get?_push_of_some _ e) (h.at λo e=>get?_push_of_some _ e) ?_ (by rw[Heap.size_push,a]) λc o n C p e=>get?_push_of_some _ (f.extBut _ _ p (d.extBut _ _ C (b.extBut _ _ n e)))
 rw[<- a];exact get?_push_size _ rfl
theorem zEn {T:Addr}{k2:Nat}{ys:Array Value}(i:A.handled=none)(D:ZipApart z TI TO i1 i2 l1 l2)
  (hz:zCh s.heap z TI TO (rawInt T) (.bool f1)) (q:s.heap.get? T=some oT) (f:IsPair s.heap TI (.ref i1) (.ref i2))
  (k:s.heap.IsListIter i1 l1 k1) (d:s.heap.IsList l1 xs) (a:xs[k1]?=none)
  (n:∀ h' e,(∀ c o,c≠z->c≠i1->s.heap.get? c=some o->h'.get? c=some o)->(∃ o,h'.get? e=some o/\o.cls=.type "StopIteration")->E (.ref e) { s with heap:=h' }) :
  wpAny (model prog w) A (Builtin.«zip.__next__» ⟨[.ref z],[]⟩) Q E s:=by
 show wpAny _ _ (field (.ref z) 2>>=_) _ _ _;refine qQ (wpAny_field hz rfl (x:=.bool false) rfl ?_);show wpAny _ _ (field (.ref z) 3>>=_) _ _ _;refine qQ (wpAny_field hz rfl (x:=.ref TI) rfl ?_);refine qQ (wpAny_seqItems f rfl ?_);show wpAny _ _ (Builtin.SmallTypes.ownedTupleIsFree (.ref z)>>=_) _ _ _;refine qQ (zEY hz q λO7 j g b=>?_);simp only[Bool.false_eq_true,if_false];refine qQ ?_;simp only[<- Array.forIn_toList,forIn_cons,List.forIn_nil];refine qQ (qQ (wpAny_holding ?_));show wpAny _ _ (Builtin.SmallTypes.nextOf (.ref i1)>>=_) _ _ _;refine qQ (wpAny_nextOf_list_end i (k.extBut b.extBut D.i1z) (d.extBut b.extBut D.l1z) a λY6 e h l=>?_);exact n Y6 e (λc o p m x=>h _ _ m (b.extBut _ _ p x)) l
theorem zJR {T:Addr}(D:ZipApart z TI TO i1 i2 l1 l2)
  (hz:zCh s.heap z TI TO (rawInt T) (.bool f1)) (m:s.heap.get? T=some oT) (b:IsPair s.heap TI (.ref i1) (.ref i2))
  (k:s.heap.IsListIter i1 l1 k1) (p:s.heap.IsListIter i2 l2 k2) (e:s.heap.IsList l1 xs) (d:s.heap.IsList l2 ys) (n:xs[k1]?=some x) (q:ys[k2]?=some y)
  (r:∀ h' f1',zCh h' z TI TO (rawInt T) (.bool f1')->h'.IsListIter i1 l1 (k1+1)->h'.IsListIter i2 l2 (k2+1)->IsPair h' s.heap.objs.size x y->h'.objs.size=s.heap.objs.size+1 ->
   (∀ c o,c≠z->c≠i1->c≠i2->s.heap.get? c=some o->h'.get? c=some o)->Q (some (.ref s.heap.objs.size)) { s with heap:=h' }) :
  wpAny (model prog w) A (pyNext (.ref z)) Q E s:=by
 have a:s.TypeIs (.ref z) "zip":=⟨_,hz,rfl⟩;exact qQ (wpAny_attempt (wpAny_callSpecial?_slot a F.slot_zip_next
  (wpAny_call_entry F.slot_zip_next a F.entry_zip_next
   (zEo D hz m b k p e d n q λh' l g f j i t h=>xj (r h' l g f j i t h)) (F.args_zip_next_1 _))))
theorem zJQ {T:Addr}{k2:Nat}{ys:Array Value}(m:A.handled=none)(D:ZipApart z TI TO i1 i2 l1 l2)
  (hz:zCh s.heap z TI TO (rawInt T) (.bool f1)) (j:s.heap.get? T=some oT) (f:IsPair s.heap TI (.ref i1) (.ref i2))
  (n:s.heap.IsListIter i1 l1 k1) (d:s.heap.IsList l1 xs) (b:xs[k1]?=none)
  (h:∀ h',(∀ c o,c≠z->c≠i1->s.heap.get? c=some o->h'.get? c=some o)->Q none { s with heap:=h' }):wpAny (model prog w) A (pyNext (.ref z)) Q E s:=by
 have a:s.TypeIs (.ref z) "zip":=⟨_,hz,rfl⟩;refine qQ (wpAny_attempt (wpAny_callSpecial?_slot a F.slot_zip_next
  (wpAny_call_entry F.slot_zip_next a F.entry_zip_next (zEn (k2:=k2) (ys:=ys) m D hz j f n d b λh' e g k=>?_) (F.args_zip_next_1 _))))
 obtain⟨o,l,i⟩:=k;refine qQ (wpAny_isInstance ⟨o,l,i⟩ isSubtype_stop ?_);exact xj (h _ g)
end
theorem zHs:typeLookup (.type "zip") "__len__"=pure none:=by rw[typeLookup_type];kernel_rfl
theorem zGT:typeLookup (.type "zip") "__length_hint__"=pure none:=by rw[typeLookup_type];kernel_rfl
noncomputable def zCF (S n:Nat):Array Value:=((List.range n).map λk=>Value.ref (S+1+k)).toArray
theorem zFY (S n:Nat):(zCF S n).push (.ref (S+1+n))=zCF S (n+1):=by
 unfold zCF;rw[List.range_succ];simp
theorem zDQ (S n:Nat):(zCF S n).size=n:=by unfold zCF;simp
structure ZJ (s:Shared)(S z TI TO i1 i2 l1 l2:Nat)(xs ys:Array Value)(i:Nat)(s':Shared):Prop where
 same:∃ h',s'={ s with heap:=h' }
 size:s'.heap.objs.size=S+1+i
 lst:∃ c,s'.heap.get? S=some { cls:=.type "list",dict:=none,data:=.seq (zCF S i) c,slots:=#[] }
 zip:(i=0/\IsZip s'.heap z TI TO .none)\/(0 < i/\∃ f1,zCh s'.heap z TI TO (rawInt (S+1:Nat)) (.bool f1))
 ti:IsPair s'.heap TI (.ref i1) (.ref i2)
 tO:∃ a b,IsPair s'.heap TO a b
 it1:s'.heap.IsListIter i1 l1 i
 it2:s'.heap.IsListIter i2 l2 i
 ls1:s'.heap.IsList l1 xs
 ls2:s'.heap.IsList l2 ys
 tup:∀ k x y,k < i->xs[k]?=some x->ys[k]?=some y->IsPair s'.heap (S+1+k) x y
 keep:∀ (c:Nat) o,c≠z->c≠TO->c≠i1->c≠i2->s.heap.get? c=some o->s'.heap.get? c=some o
structure ZEnd (s:Shared)(S z TO i1 i2:Nat)(xs ys:Array Value)(s':Shared):Prop where
 same:∃ h',s'={ s with heap:=h' }
 lst:∃ c,s'.heap.get? S=some { cls:=.type "list",dict:=none,data:=.seq (zCF S xs.size) c,slots:=#[] }
 tup:∀ k x y,xs[k]?=some x->ys[k]?=some y->IsPair s'.heap (S+1+k) x y
 keep:∀ (c:Nat) o,c≠z->c≠TO->c≠i1->c≠i2->s.heap.get? c=some o->s'.heap.get? c=some o
section
variable {prog:Program}{w:World}{A:Around}{E:Value->Shared->Prop}{s:Shared}{R:Result->Shared->Prop}
variable {S z TI TO i1 i2 l1 l2:Nat}{xs ys:Array Value}
theorem zLA (hh:A.in1.handled=none)(D:ZipApart z TI TO i1 i2 l1 l2)(c0:xs.size=ys.size)(hn:xs.size<=10000)(hz:z < S)(e6:TI < S)(e5:TO < S)(e4:i1 < S)(e3:i2 < S)(d0:l1 < S)(e7:l2 < S)(p:s.heap.objs.size<=S)(m:Value)
  (hR:∀ s',ZEnd s S z TO i1 i2 xs ys s'->R (.ok (.ret m)) s') :
  ∀ (k i:Nat) (s':Shared),xs.size - i=k->i<=xs.size->ZJ s S z TI TO i1 i2 l1 l2 xs ys i s'->codeAny (model prog w) A (.builtin "list.extend.loop" ⟨[.ref S,.ref z,m],[]⟩) R s':=by
 intro k
 induction k with
 | zero =>
  intro i s' hk hi J;have b9:i=xs.size:=by omega
  subst b9;obtain⟨t,rfl⟩:=J.same;refine codeAny_builtin F.entry_extend_loop ?_;rw[Around.under_plainId F.plain_extend_loop _];show wpAny _ A.in1 (pyNext (.ref z)>>=_) _ _ _;have u:xs[xs.size]?=none:=by simp
  obtain⟨c,hc⟩:=J.lst;obtain⟨ta,tb,n⟩:=J.tO;refine qQ ?_;have fin:∀ h',(∀ (c:Nat) o,c≠z->c≠TO->c≠i1->c≠i2->t.get? c=some o->h'.get? c=some o)->R (.ok (.ret m)) { s with heap:=h' }:=λh' j=>by
   have up:∀ (b:Nat) o,S<=b->t.get? b=some o->h'.get? b=some o:=λb o hb e=>j b o (by omega) (by omega) (by omega) (by omega) e
   refine hR _ ⟨⟨h',rfl⟩,⟨c,up S _ (le_refl _) hc⟩,λk x y H K=>up _ _ (by omega) (J.tup k x y ?_ H K),λb o b1 b2 b3 b4 e=>j b o b1 b2 b3 b4 (J.keep b o b1 b2 b3 b4 e)⟩;by_cases q:k < xs.size
   .exact q
   .have:xs[k]?=none:=Array.getElem?_eq_none (Nat.le_of_not_lt q);rw[this] at H;cases H
  rcases J.zip with ⟨i0,d⟩ | ⟨ip,M,d⟩
  .exact wpAny_pyNext_zip_end hh D d J.ti n J.it1 J.it2 J.ls1 J.ls2 (.inl u) λh' j=>xj (fin h' j)
  .have G:∃ x,xs[0]?=some x:=⟨xs[0],by simp[ip]⟩;have B:∃ y,ys[0]?=some y:=⟨ys[0]'(by omega),Array.getElem?_eq_getElem (by omega)⟩;obtain⟨x0,E⟩:=G;obtain⟨Y,v⟩:=B;have L:=J.tup 0 x0 Y ip E v;rw[Nat.add_zero] at L;exact zJQ (k2:=0) (ys:=ys) hh D d L J.ti J.it1 J.ls1 u λh' j=>xj (fin h' λc o U _ Z _ e=>j c o U Z e)
 | succ k ih =>
  intro i s' hk hi J;have r:i < xs.size:=by omega
  obtain⟨t,rfl⟩:=J.same;have H:xs[i]?=some xs[i]:=by simp[r]
  have K:ys[i]?=some (ys[i]'(by omega)):=Array.getElem?_eq_getElem (by omega);refine codeAny_builtin F.entry_extend_loop ?_;rw[Around.under_plainId F.plain_extend_loop _];show wpAny _ A.in1 (pyNext (.ref z)>>=_) _ _ _;obtain⟨c,hc⟩:=J.lst;obtain⟨ta,tb,n⟩:=J.tO;have N:t.objs.size=S+1+i:=J.size;have go:∀ h',(∀ (c:Nat) o,c≠z->c≠TO->c≠i1->c≠i2->t.get? c=some o->h'.get? c=some o)->(∃ M,zCh h' z TI TO (rawInt (S+1:Nat)) (.bool M))->(∃ a b,IsPair h' TO a b)->h'.IsListIter i1 l1 (i+1)->h'.IsListIter i2 l2 (i+1) ->
    IsPair h' (S+1+i) xs[i] (ys[i]'(by omega))->h'.objs.size=S+1+i+1 ->
    wpAny (model prog w) A.in1 (updateSeq S (·.push (.ref (S+1+i)))>>=λ_=>again (.builtin "list.extend.loop" ⟨[.ref S,.ref z,m],[]⟩))
     (λfin s'=>match fin with | .done f=>R (.ok f) s' | .again c'=>c'.quiet=true/\codeAny (model prog w) A c' R s') (λe s'=>R (.error e) s') { s with heap:=h' }:=λh' j d l X b5 hp W=>by
   have up:∀ (b:Nat) o,S<=b->t.get? b=some o->h'.get? b=some o:=λb o hb e=>j b o (by omega) (by omega) (by omega) (by omega) e
   have I:=up S _ (le_refl _) hc;refine qQ ?_;refine wpAny_updateSeq I rfl (xj ⟨plainId_quiet F.plain_extend_loop _,ih (i+1) _ (by omega) r ?_⟩) (by rw[zDQ];exact le_trans (Nat.le_of_lt r) (le_trans hn (by decide))) (by show ((zCF S i).push _).size<=sizeLine+1;rw[Array.size_push,zDQ];exact Nat.succ_le_succ (le_trans (Nat.le_of_lt r) (le_trans hn (by decide))));have h:∀ (b:Nat) o,b≠S->h'.get? b=some o->(h'.update S (Obj.mapSeq (·.push (.ref (S+1+i))))).get? b=some o:=λb o hb e=>(Heap.get?_update_other _ _ (Ne.symm hb)).trans e
   obtain⟨M,d⟩:=d;obtain⟨a',b',l⟩:=l;have ql:∃ c,(h'.update S (Obj.mapSeq (·.push (.ref (S+1+i))))).get? S=some { cls:=.type "list",dict:=none,data:=.seq (zCF S (i+1)) c,slots:=#[] }:=⟨_,by
    rw[<- zFY];exact Heap.get?_update_self (Obj.mapSeq (·.push (Value.ref (S+1+i)))) I rfl⟩
   refine⟨⟨_,rfl⟩,?_,ql,.inr ⟨Nat.succ_pos i,M,h _ _ (by omega) d⟩,h _ _ (by omega) (j _ _ D.TIz D.TITO D.TIi1 D.TIi2 J.ti),⟨a',b',h _ _ (by omega) l⟩,X.at λo e=>h _ o (by omega) e,b5.at λo e=>h _ o (by omega) e,
    (J.ls1.at λo e=>j _ o D.l1z D.l1TO D.l1i1 D.l1i2 e).at λo e=>h _ o (by omega) e,(J.ls2.at λo e=>j _ o D.l2z D.l2TO D.l2i1 D.l2i2 e).at λo e=>h _ o (by omega) e,λk x y d4 ex ey=>?_,λb o b1 b2 b3 b4 e=>?_⟩
   .show (h'.update S _).objs.size=_;rw[Heap.size_update,W];omega
   .refine h _ _ (by omega) ?_;by_cases q:k < i
    .exact up _ _ (by omega) (J.tup k x y q ex ey)
    .have:k=i:=by omega
     subst this;rw[H] at ex;rw[K] at ey;cases ex;cases ey;exact hp
   .by_cases q:b=S
    .subst q;have:=lt_size e;exact absurd (xJ this p) (lt_irrefl _)
    .exact h b o q (j b o b1 b2 b3 b4 (J.keep b o b1 b2 b3 b4 e))
  refine qQ ?_;rcases J.zip with ⟨i0,d⟩ | ⟨ip,M,d⟩
  .subst i0;refine wpAny_pyNext_zip_item D d J.ti n J.it1 J.it2 J.ls1 J.ls2 H K λh' T a2 V a4 O P Q=>?_
   have e1:({ s with heap:=t }:Shared).heap.objs.size=S+1+0:=N;rw[e1] at T O P ⊢;exact go h' Q ⟨false,T⟩ ⟨_,_,a2⟩ V a4 O P
  .have G:∃ x,xs[0]?=some x:=⟨xs[0]'(by omega),Array.getElem?_eq_getElem (by omega)⟩;have B:∃ y,ys[0]?=some y:=⟨ys[0]'(by omega),Array.getElem?_eq_getElem (by omega)⟩;obtain⟨x0,E⟩:=G;obtain⟨Y,v⟩:=B;have L:=J.tup 0 x0 Y ip E v;rw[Nat.add_zero] at L;refine zJR D d L J.ti J.it1 J.it2 J.ls1 J.ls2 H K λh' f' T V a4 O P Q=>?_
   have e1:({ s with heap:=t }:Shared).heap.objs.size=S+1+i:=N;rw[e1] at O P ⊢;exact go h' (λc o U _ Z c4 e=>Q c o U Z c4 e) ⟨f',T⟩ ⟨ta,tb,Q _ _ D.TOz D.TOi1 D.TOi2 n⟩ V a4 O P
end
section
variable {prog:Program}{w:World}{A:Around}{E:Value->Shared->Prop}{s:Shared}
variable {z TI TO i1 i2 l1 l2:Nat}{xs ys:Array Value}
theorem zFR (T:A.handled=none)(D:ZipApart z TI TO i1 i2 l1 l2)(hz:IsZip s.heap z TI TO .none)(C:IsPair s.heap TI (.ref i1) (.ref i2))(r:IsPair s.heap TO a b)(P:s.heap.IsListIter i1 l1 0)(S:s.heap.IsListIter i2 l2 0)
  (l:s.heap.IsList l1 xs) (B:s.heap.IsList l2 ys) (t:xs.size=ys.size) (V:xs.size<=10000) (Y:∀ s',ZEnd s s.heap.objs.size z TO i1 i2 xs ys s'->Q (.ref s.heap.objs.size) s') :
  wpAny (model prog w) A (call (.type "list") [.ref z]) Q E s:=by
 have m:z < s.heap.objs.size:=lt_size hz;have j:TI < s.heap.objs.size:=lt_size C;have u:TO < s.heap.objs.size:=lt_size r;have I:i1 < s.heap.objs.size:=by obtain⟨o,e,_⟩:=P;exact lt_size e
 have L:i2 < s.heap.objs.size:=by obtain⟨o,e,_⟩:=S;exact lt_size e
 have n:l1 < s.heap.objs.size:=by obtain⟨o,e,_⟩:=l;exact lt_size e
 have p:l2 < s.heap.objs.size:=by obtain⟨o,e,_⟩:=B;exact lt_size e
 refine callType_codes (Q₁:=λobj R=>obj=.ref s.heap.objs.size/\R={ s with heap:=s.heap.push { cls:=.type "list",data:=.seq #[] } }) F.called_list (F.typeCall_list_1 _) F.entry_list_init
  (code_list_new _ ⟨rfl,rfl⟩) λobj R X=>?_
 obtain⟨rfl,rfl⟩:=X;have H:(s.heap.push { cls:=.type "list",data:=.seq #[] }).get? s.heap.objs.size=some { cls:=.type "list",data:=.seq #[] }:=get?_push_size _ rfl;refine⟨⟨_,H,rfl⟩,F.args_list_init_2 _ _,?_⟩;show wpAny _ A.in1.in1 (do let N<-Builtin.List.listItems (.ref s.heap.objs.size);Builtin.List.listUpdate (.ref s.heap.objs.size) (λ_=>#[]);letGo N.toList.reverse;Builtin.List.listExtendWith (.ref s.heap.objs.size) (.ref z) .none) _ _ _;refine qQ ?_;unfold Builtin.List.listItems;refine qQ (wpAny_seqItems H rfl (xj ?_));show wpAny _ A.in1.in1 (updateSeq s.heap.objs.size (λ_=>#[])>>=λ_=>letGo (#[]:Array Value).toList.reverse>>=λ_=>Builtin.List.listExtendWith (.ref s.heap.objs.size) (.ref z) .none) _ _ _;refine qQ (wpAny_updateSeq H rfl ?_);have h:=Heap.get?_update_self (Obj.mapSeq (λ_=>(#[]:Array Value))) H rfl;refine qQ (wpAny_letGo ?_);have U:∃ d,d=(s.heap.push { cls:=.type "list",data:=.seq #[] }).update s.heap.objs.size (Obj.mapSeq (λ_=>(#[]:Array Value))):=⟨_,rfl⟩;obtain⟨d,i⟩:=U;rw[<- i] at h ⊢;have v:∀ (b:Nat) o,b≠s.heap.objs.size->(s.heap.push { cls:=.type "list",data:=.seq #[] }).get? b=some o->d.get? b=some o:=λb o G e=>by rw[i];exact(Heap.get?_update_other _ _ (Ne.symm G)).trans e
 have g:∀ (b:Nat) o,s.heap.get? b=some o->d.get? b=some o:=λb o e=>v b o (ne_of_lt (lt_size e)) (get?_push_of_some _ e)
 have O:d.objs.size=s.heap.objs.size+1:=by rw[i,Heap.size_update,Heap.size_push]
 unfold Builtin.List.listExtendWith;have M:({ s with heap:=d }:Shared).TypeIs (.ref z) "zip":=⟨_,g _ _ hz,rfl⟩;refine qQ (wpAny_typeOf M ?_);have q1:Builtin.List.listSameRef (.ref s.heap.objs.size) (.ref z)=false:=by
  have:s.heap.objs.size≠z:=Nat.ne_of_gt m;simp[Builtin.List.listSameRef,this]
 have W:(Value.type "zip"==Value.type "list")=false:=by decide
 have Z:(Value.type "zip"==Value.type "tuple")=false:=by decide
 simp only[q1,W,Z,Bool.or_false,Bool.false_eq_true,if_false];refine qQ (wpAny_pyIter_zip (g _ _ hz) ?_);refine qQ (wpAny_holding ?_);unfold Builtin.List.listLengthHint;refine qQ (wpAny_specialOf M zHs ?_);show wpAny _ A.in1.in1 (specialOf (Value.ref z) (Str.ofString "__length_hint__")>>=_) _ _ _;refine qQ (wpAny_specialOf M zGT ?_);refine xj ?_;show wpAny _ A.in1.in1 (rule "list.extend.makes-room">>=λ_=>Builtin.List.listTouch (.ref s.heap.objs.size)>>=λ_ =>
  again (.builtin "list.extend.loop" ⟨[.ref s.heap.objs.size,.ref z,.none],[]⟩)) _ _ _
 refine qQ (wpAny_rule ?_);refine qQ ?_;show wpAny _ A.in1.in1 (updateSeq s.heap.objs.size (·.push .none)>>=λ_=>updateSeq s.heap.objs.size (·.pop)) _ _ _;refine qQ (wpAny_updateSeq h rfl ?_);have q:=Heap.get?_update_self (Obj.mapSeq (·.push Value.none)) h rfl;refine wpAny_updateSeq (hz:=by seq_fits) q rfl ?_;have J:=Heap.get?_update_self (Obj.mapSeq (·.pop)) q rfl;have K:∀ (b:Nat) o,b≠s.heap.objs.size->d.get? b=some o->((d.update s.heap.objs.size (Obj.mapSeq (·.push Value.none))).update s.heap.objs.size (Obj.mapSeq (·.pop))).get? b=some o :=
  λb o G e=>(Heap.get?_update_other _ _ (Ne.symm G)).trans ((Heap.get?_update_other _ _ (Ne.symm G)).trans e)
 have f:∀ (b:Nat) o,s.heap.get? b=some o->((d.update s.heap.objs.size (Obj.mapSeq (·.push Value.none))).update s.heap.objs.size (Obj.mapSeq (·.pop))).get? b=some o:=λb o e=>K b o (ne_of_lt (lt_size e)) (g b o e)
 refine xj ⟨plainId_quiet F.plain_extend_loop _,zLA (s:=s) (A:=A.in1) T D t V m j u I L n p (le_refl _) .none (λs' e=>⟨rfl,Y s' e⟩) xs.size 0 _ rfl (zero_le _) ?_⟩;exact⟨⟨_,rfl⟩,by show (Heap.update _ _ _).objs.size=_;rw[Heap.size_update,Heap.size_update,O],⟨_,J⟩,.inl ⟨rfl,f _ _ hz⟩,f _ _ C,⟨a,b,f _ _ r⟩,P.at λo e=>f _ o e,S.at λo e=>f _ o e,l.at λo e=>f _ o e,B.at λo e=>f _ o e,
  λk x y hk=>absurd hk (Nat.not_lt_zero k),λc o _ _ _ _ e=>f c o e⟩
end
end DL
end
section
namespace DL
open PySem Spec PyProof.Rows L2
noncomputable def HZ (H:Hp)(S:Nat)(us ws:List V):Hp:=λ(b:Nat)=>if b=S then some (.lst ((List.range us.length).map λk=>V.ref (S+1+k))) else if S+1<=b/\b < S+1+us.length then some (.tup [us.getD (b - (S+1)) .non,ws.getD (b - (S+1)) .non]) else H b
theorem hz_S :HZ H S us ws S=some (.lst ((List.range us.length).map λk=>V.ref (S+1+k))):=if_pos rfl
theorem hz_t {H:Hp}{S k:Nat}{us ws:List V}(a:k < us.length):HZ H S us ws (S+1+k)=some (.tup [us.getD k .non,ws.getD k .non]):=by
 unfold HZ;rw[if_neg (by omega),if_pos (by omega),Nat.add_sub_cancel_left]
theorem zNS (hb:b < S):HZ H S us ws b=H b:=by
 unfold HZ;grind
theorem zDm:∀ l:List Nat,Vals (l.map V.ref) (l.map Value.ref)
 | []=>.nil
 | a::l=>.cons rfl (zDm l)
theorem zIc (r:Vals us its)(a:k < us.length):∃ x,its[k]?=some x/\RelV (us.getD k .non) x:=by
 have e:us[k]?=some (us.getD k .non):=by
  simp_all
 exact r.get e
noncomputable def zipT (xs ys:List D):List D:=List.zipWith (λa b=>D.tup [a,b]) xs ys
noncomputable def zipD (x y:D):Option R:=match x,y with
 | .lst xs,.lst ys=>if xs.length=ys.length/\xs.length<=10000 then some (.lst (zipT xs ys),.fr) else none
 | _,_=>none
section
variable {X:Cx}
theorem zIN (E:X.calm=true)(a5:Gl X "list")(c0:X.mg "list"=none)(c3:Gl X "zip")(c7:X.mg "zip"=none)(ha:GE X a f)(hb:GE X b g)
  (hs:starEach [a,b] X.env=(false,eval a X.env)::starEach [b] X.env) (M:starEach [b] X.env=[(false,eval b X.env)]) :
  GE X (.Call (.Name "list" p) [.Call (.Name "zip" p2) [a,b] [] pos2] [] pos) (two f g zipD):=by
 intro U s σ H Q I ⟨S,G,r,ds,e,c⟩;obtain⟨x,ex,e⟩:=bind_some e;obtain⟨y,ey,e⟩:=bind_some e;unfold zipD at e;split at e
 .rename_i xs ys b6 b0;by_cases ok:xs.length=ys.length/\xs.length<=10000
  .rw [if_pos ok] at e;cases e;obtain⟨g1,d5⟩:=ok;refine wpAny_Call_Name_kw (zCa I a5 c0 boot_list ?_ (by decide) (by decide));refine PyProof.Rows.callWith_type1 ?_ rfl rfl;show wpAny _ _ (spliced ((false,eval (.Call (.Name "zip" p2) [a,b] [] pos2) X.env)::[])) _ _ s;refine Calls.spliced_cons ?_;refine wpAny_Call_Name_kw (zCa I c3 c7 boot_zip ?_ (by decide) (by decide));refine PyProof.Rows.callWith_type1 (thn ((zAR ha (zAR hb zAs M) hs) pos2 U s σ H (λvs H2=>∃ vx vy,vs=[vx,vy]/\Same H H2/\Rdv X.K H2 S x.1 vx/\Rdv X.K H2 S y.1 vy) I
    ⟨S,G,x,ds,ex,λvx l t r1=>⟨S,G,y,ds.mono t,ey,λvy H2 s2 r2=>⟨vx,vy,rfl,t.trans s2,r1.rd.mono s2,r2.rd⟩⟩⟩) λus t ⟨vs,l,K,r1,q1⟩=>?_) hs (by rw[M];rfl)
   obtain⟨vx,vy,rfl,sm,dx,dy⟩:=q1;rw[b6] at dx;rw[b0] at dy;obtain⟨l1,m,rfl,w1,d1⟩:=dx.lst;obtain⟨l2,C,rfl,w2,d2⟩:=dy.lst;obtain⟨u1,u2,rfl,c8,c5⟩:=zHv r1;cases c8;cases c5;obtain⟨R,O,p1,z1⟩:=K.list w1;obtain⟨e8,W,p2,z2⟩:=K.list w2;have n1:xs.length=m.length:=d1.length;have n2:ys.length=C.length:=d2.length;have m1:=O.length;have m2:=W.length;have L:l1 < t.heap.objs.size:=by obtain⟨o,q,_⟩:=p1.isList;exact lt_size q
   have T:l2 < t.heap.objs.size:=by obtain⟨o,q,_⟩:=p2.isList;exact lt_size q
   refine call_zip_2 p1.isList p2.isList λh' hz b8 a9 N Y c6 hk=>?_
   refine Calls.spliced_nil ?_;refine zFR (s:={ t with heap:=h' }) (I.ok.hd E) (zipApart_new L T) hz b8 a9 N Y (p1.isList.at λo q=>hk _ o q) (p2.isList.at λo q=>hk _ o q) (by rw[xX,xX];omega) (by rw[xX];omega) λs' Z=>?_
   obtain⟨F,a8⟩:=Z.same;have eS:({ t with heap:=h' }:Shared).heap.objs.size=t.heap.objs.size+5:=c6;have gS:∃ h,h=t.heap.objs.size:=⟨_,rfl⟩;obtain⟨h,A⟩:=gS;rw[eS,<- A] at Z ⊢;rw[<- A] at L T;subst a8;have kp:∀ (b:Nat) o,t.heap.get? b=some o->F.get? b=some o:=λb o q=>by
    have hb:b < h:=by rw[A];exact lt_size q
    exact Z.keep b o (by omega) (by omega) (by omega) (by omega) (hk b o q)
   obtain⟨cc,B⟩:=Z.lst;have J:∀ {b:Nat} {o:HO},l b=some o->b < h:=λ{b o} q=>by rw[A];exact(K.hok b o q).lt
   have j:∀ {b:Nat} {o:HO},l b=some o->HZ l (h+5) m C b=some o:=λ{b o} q=>by rw[zNS (by have:=J q;omega)];exact q
   have hn:R.toArray.size=m.length:=by rw[xX];exact m1.symm
   rw[hn] at B;have b7:HOk X.prog X.w (HZ l (h+5) m C) F:=λ(b:Nat) o q=>by
    by_cases c1:b=h+5
    .subst c1;rw[hz_S] at q;cases q;refine⟨by rw[List.length_map,length_range];exact z1,(List.range m.length).map λk=>Value.ref (h+5+1+k),cc,?_,B⟩;have:=zDm ((List.range m.length).map λk=>h+5+1+k);rw[map_map,map_map] at this;exact this
    .by_cases c2:h+5+1<=b/\b < h+5+1+m.length
     .have eb:b=h+5+1+(b - (h+5+1)):=by omega
      have V:b - (h+5+1) < m.length:=by omega
      rw[eb,hz_t V] at q;cases q;obtain⟨ux,b4,rx⟩:=zIc O V;obtain⟨uy,b3,ry⟩:=zIc W (k:=b - (h+5+1)) (by omega);have tp:=Z.tup (b - (h+5+1)) ux uy (by simpa using b4) (by simpa using b3);refine⟨by show 2<=sizeLine;decide,[ux,uy],.cons rx (.cons ry .nil),?_⟩;rw[<- eb] at tp;exact⟨_,tp,rfl,_,rfl⟩
     .have q':l b=some o:=by
       unfold HZ at q;rw[if_neg c1,if_neg c2] at q;exact q
      exact(K.hok b o q').stay (λd v _ w=>kp d v w) (λd w=>j w) (λd ws w=>j w) λd ob u w _=>j w
   have P:∀ (b:Nat) o,t.heap.get? b=some o->l b=none->HZ l (h+5) m C b=none:=λb o q n=>by
    have hb:b < h:=by rw[A];exact lt_size q
    rw[zNS (by omega)];exact n
   have un:Un X.fs [] l (HZ l (h+5) m C) t.heap F:=⟨λb o q _ _ _=>kp b o q,λb o q _ _ _=>⟨o.slots,kp b o q⟩,λb o q n _=>P b o q n,λb o q _=>⟨o,kp b o q⟩,λb ws q=>j q,λb o w q=>j q,λb ps q=>j q⟩;have sH:Same l (HZ l (h+5) m C):=λb o q=>j q
   have fr:l (h+5)=none:=K.hok.fresh (by rw[<- A];omega);have nS:∀ {b:Nat},b∈S->b < h:=λ{b} z=>by
    obtain⟨ws,q,_⟩:=(ds.mono sm).sok b z;exact J q
   refine⟨.ref (h+5),_,K.un (t':=t.toks) un b7,rfl,c _ _ (sm.trans sH) ⟨h+5,_,_,rfl,rfl,λz=>absurd (nS z) (by omega),sm.free fr,hz_S,?_⟩⟩;refine DenL.of_get ?_ λi d v D ev=>?_
   .unfold zipT;rw[List.length_zipWith,List.length_map,length_range];omega
   .unfold zipT at D;rw[List.getElem?_zipWith] at D;rw[getElem?_map] at ev;cases e1:xs[i]? with
    | none=>rw[e1] at D;simp at D
    | some g5 =>
     cases e2:ys[i]? with
     | none=>rw[e1,e2] at D;simp at D
     | some g6 =>
      rw[e1,e2] at D;cases D;have hi:i < m.length:=by rw[<- n1];exact(zzg e1).1
      rw[getElem?_range hi] at ev;cases ev;obtain⟨va,qa,da⟩:=d1.get e1;obtain⟨vb,qb,db⟩:=d2.get e2;have ga:m.getD i .non=va:=by rw[getD_eq_getElem?_getD,qa];rfl
      have gb:C.getD i .non=vb:=by rw[getD_eq_getElem?_getD,qb];rfl
      have up:Same (hide l S) (hide (HZ l (h+5) m C) ((h+5)::S)):=λ(b:Nat) o q=>by
       obtain⟨q1,q2⟩:=zA5 q;rw[zAQ λz=>(mem_cons.mp z).elim (λz=>by have z':b=h+5:=z;have:=J q2;omega) q1];exact j q2
      rw[Den];refine⟨h+5+1+i,[va,vb],rfl,SqT.of ?_,.cons (da.mono up) (.cons (db.mono up) .nil)⟩;rw[zAQ λz=>(mem_cons.mp z).elim (λz=>by have z':h+5+1+i=h+5:=z;omega) λz=>by have:=nS z;omega,hz_t hi,ga,gb]
  .rw [if_neg ok] at e;cases e
 .cases e
end
def zN9:V->List V->Hp->VK->Prop:=λx vs H Q=>∃ l xs k y,x=.ref l/\vs=[.int k,y]/\H l=some (.lst xs)/\0<=k/\k<=xs.length/\xs.length < 1000000/\Q .non (upd H l (.lst (xs.take k.toNat++y::xs.drop k.toNat)))
theorem zJT :MtM X "list.insert" zN9:=by
 intro f s σ H x B v us Q I j i h;obtain⟨l,A,k,y,rfl,rfl,g,w,E,D,q⟩:=h;cases j;obtain⟨u,d,rfl,p,c⟩:=zHv i;obtain⟨t,rfl⟩:=p;obtain⟨z,a,n,r,C,e⟩:=I.lstM g;have b:¬ (!Builtin.List.listFitsIndex k)=true:=by
  unfold Builtin.List.listFitsIndex;grind
 have m:a.toArray.size<=sizeLine:=by rw[xX];omega
 refine call_meets F.slot_list_insert ⟨_,e,rfl⟩ F.entry_list_insert (F.args_list_insert_3 _ _ _) (AutoSeq1.list_insert_list_int_val_1 l a.toArray n k t d b m) ⟨e,?_⟩;refine⟨.non,_,I.lset (its':=a.take k.toNat++d::a.drop k.toNat) g e ?_ ((r.take _).append (.cons c (r.drop _))) ?_,rfl,q⟩
 .have o:¬ k < 0:=by omega
  have mk:min k.toNat a.toArray.size=k.toNat:=by rw[xX];omega
  rw[if_neg o,mk];grind
 .rw [qj,x9,length_take,List.length_drop];have:(1000000:Nat)<=sizeLine:=by decide
  omega
def Arr (stack:List Env)(H':Hp)(h0:Heap)(ex:List Addr)(a C:Addr)(h:Heap):Prop :=
 ∃ B:Heap,B.StaysIn h/\B.get? a=none/\h.FunFrames B stack/\(∀ b u,H' b=some u->∃ o,B.get? b=some o)/\(∀ b o,h0.get? b=some o->b∉frs stack->b∉ex->∃ o',B.get? b=some o') /\
  ∃ a0,(∃ fl,h.TracedAtW B a (.ref C) a0 fl)\/(∃ oe vs,h.get? a=some oe/\oe.cls=.ref C/\oe.data=.fields vs/\vs[1]?=some .none/\vs[0]?=some a0)
structure Gone (P:Program)(w:World)(stack:List Env)(ex:List Addr)(H H':Hp)(s s':Shared)(a C:Addr):Prop where
 os:s'.os=s.os
 bare:AllBare s'.gens
 un:Un (frs stack) ex H H' s.heap s'.heap
 hok:HOk P w H' s'.heap
 arr:Arr stack H' s.heap ex a C s'.heap
def CXd (P:Program)(w:World):CXT:=λouter H s E e s'=>∃ a C H',e=.ref a/\E (.ref C) none H'/\Gone P w outer [] H H' s s' a C
section
variable {fs fs' ex:List Addr}{H H':Hp}{h0 h h' B:Heap}{P:Program}{w:World}
theorem zId (un:Un fs ex H H' h0 h)(st:B.StaysIn h)(f:B.StaysIn h')(k:∀ b o,h0.get? b=some o->b∉fs->b∉ex->∃ o',B.get? b=some o')(fr:∀ b∈fs,∃ o,h.get? b=some o/\∀ vs,o.data≠.fields vs)(up:∀ b o,b∈fs->h.get? b=some o->(∀ vs,o.data≠.fields vs)->∃ sl,h'.get? b=some { o with slots:=sl }):Un fs ex H H' h0 h' where
 keep:=λb o q n a c=>by
  obtain⟨o',e⟩:=k b o q a c;have l:=un.keep b o q n a c;rw[st b o' e] at l;exact(xY l)▸f b o' e
 slot:=λb o q n a c=>by
  obtain⟨sl,e⟩:=un.slot b o q n a c;obtain⟨m,g,j⟩:=fr b a;rw[e] at g;cases g;obtain⟨d,i⟩:=up b _ a e j;exact⟨d,i⟩
 free:=un.free
 there:=λb o q c=>by
  by_cases a:b∈fs
  .obtain ⟨m,g,j⟩:=fr b a;obtain⟨d,i⟩:=up b _ a g j;exact⟨_,i⟩
  .obtain ⟨o',e⟩:=k b o q a c;exact⟨o',f b o' e⟩
 tups:=un.tups
 frzs:=un.frzs
 tbls:=un.tbls
theorem zSX {ex':List Addr}(u:Un fs ex H H' h h')(c:∀ b o,h.get? b=some o->b∈ex->b∈ex'):Un fs ex' H H' h h' where
 keep:=λb o q n d a=>u.keep b o q n d λz=>a (c b o q z)
 slot:=λb o q n d a=>u.slot b o q n d λz=>a (c b o q z)
 free:=λb o q n a=>u.free b o q n λz=>a (c b o q z)
 there:=λb o q a=>u.there b o q λz=>a (c b o q z)
 tups:=u.tups
 frzs:=u.frzs
 tbls:=u.tbls
theorem zNr (u:Un fs' ex H H' h h')(d:∀ b o,h.get? b=some o->b∈fs'->b∈fs)(e:∀ b∈fs,b∈fs'):Un fs ex H H' h h' where
 keep:=λb o q n c a=>u.keep b o q n (λz=>c (d b o q z)) a
 slot:=λb o q n c a=>u.slot b o q n (e b c) a
 free:=u.free
 there:=u.there
 tups:=u.tups
 frzs:=u.frzs
 tbls:=u.tbls
theorem zGs (x:HOk P w H' h)(st:B.StaysIn h)(c:B.StaysIn h')(k:∀ b u,H' b=some u->∃ o,B.get? b=some o):HOk P w H' h':=λa o e =>
 (x a o e).stay (λb u q g=>by
  have:∃ o,H' b=some o:=by
   rcases q with q | q
   .exact ⟨o,by rw[q];exact e⟩
   .exact ⟨_,q⟩
  obtain⟨i,j⟩:=this;obtain⟨d,f⟩:=k b i j;rw[st b d f] at g;exact(xY g)▸c b d f) (λ_ q=>q) (λ_ _ q=>q) λ_ _ _ q _=>q
theorem zJO (x:zBV P w H h a o):∃ ob,h.get? a=some ob:=by
 cases o with
 | lst c=>obtain⟨_,_,_,_,e⟩:=x;exact⟨_,e⟩
 | tup c=>obtain⟨_,_,_,ob,e,_⟩:=x;exact⟨_,e⟩
 | dK b=>obtain⟨_,_,_,_,o,_,_,e,_⟩:=x;exact⟨_,e⟩
 | dT b=>obtain⟨_,_,_,_,o,_,_,e,_⟩:=x;exact⟨_,e⟩
 | set S n=>obtain⟨o,_,_,_,e,_⟩:=x;exact⟨_,e⟩
 | ins C k fs=>obtain⟨_,_,_,e,_⟩:=x;exact⟨_,e⟩
 | own y=>obtain⟨_,e⟩:=x;exact⟨_,e⟩
 | xd fs=>obtain⟨_,⟨_,_,_,e,_⟩,_⟩:=x;exact⟨_,e⟩
 | rng j i=>obtain⟨_,_,_,e⟩:=x;exact⟨_,e⟩
 | frz ob u=>obtain⟨e,_⟩:=x;exact⟨_,e⟩
 | tbl d=>obtain⟨_,e,_⟩:=x;exact⟨_,e⟩
 | met f y=>exact⟨_,(show h.get? a=some _ from x)⟩
 | ext g=>obtain⟨_,⟨_,e⟩,_⟩:=x;exact⟨_,e⟩
theorem zD9 (k:∀ b o,h.get? b=some o->h'.get? b=some o):∀ {l:List Env},h.FunFrames base l->(∀ b∈frs l,B.get? b=none)->h'.FunFrames B l
 | [],_,_=>trivial
 | env::r,⟨hk,⟨L,o,hf,_,ho,hd⟩,hr⟩,hb=>⟨hk,⟨L,o,hf,hb L (by unfold frs;rw[filterMap_cons,hf];exact xy),k L o ho,hd⟩,zD9 k hr λb z=>hb b (by unfold frs;rw[filterMap_cons,hf];exact qY _ z)⟩
end
theorem zLf {M:Model}{A:Around}{E:Value->Shared->Prop}{s:Shared}{B:Heap}{env:Env}{c:List Env}{L a:Addr}{cls p q:Value}{Q:Unit->Shared->Prop}(j:A.frames=some (env::c))(t:s.heap.FunFrames B (env::c))(i:env.frame=some L)
  (l:s.heap.TracedAtW B a cls p q) (st:B.StaysIn s.heap) (h:B.get? a=none) (k:∀ h',Heap.NotedW B (env::c) a cls p (rawInt L) s.heap h'->Q () { s with heap:=h' }):wpAny M A (noteFrame (.ref a) env) Q E s:=by
 by_cases ef:q=rawInt L
 .subst ef;exact wpAny_noteFrame_againW i l (k s.heap ⟨st,t,l,λb o x _=>⟨o.slots,x⟩⟩)
 obtain⟨G,m,T,F,y,r,⟨rfl,C⟩,q3,q4,q5,q6,q7,q8,q9⟩:=l;have d:∀ b,b≠T->(s.heap.update T (Obj.mapFields (·.setIfInBounds 3 Value.none))).get? b=s.heap.get? b:=λb z=>Heap.get?_update_other _ _ (Ne.symm z)
 have n:∀ b o,s.heap.get? b=some o->(∀ m,o.data≠.fields m)->b≠T:=λb o e g z=>by
  rw[z,q7] at e;cases e;exact g y q8
 unfold noteFrame;simp only[i];refine qQ (wpAny_field r q3 q4 ?_);rw[if_pos (by simp)];refine qQ (wpAny_field q7 q8 q9 ?_);rw[if_neg (by simpa using ef)];refine qQ (wpAny_setField q7 q8 (Array.getElem?_eq_some_iff.mp q9).1 ?_);refine wpAny_entryW j (t.of_keeps λb o e g=>⟨o,(d b (n b o e g)).trans e,rfl⟩) i ((d a (Ne.symm q6)).trans r) (λb o e=>(d b λz=>by rw[z,q5] at e;cases e).trans (st b o e)) h q3 (Array.getElem?_eq_some_iff.mp q4).1 C ?_;exact λh' f=>by obtain⟨D,w,v,u⟩:=f;exact k h' ⟨D,w,v,λb o e g=>u b o ((d b (n b o e g)).trans e) g⟩
section
variable {X:Cx}{pins:List (Addr×Obj)}{σ:St}{ex:List Addr}{H H':Hp}{s s':Shared}{a C:Addr}
theorem zFt (hst:X.stack=X.env::X.outer)(hf:X.env.frame=some X.env.locals)(he:env.frame=X.env.frame)(ok:X.Ok)(g:Gone X.prog X.w X.stack ex H H' s s' a C)
  (k:∀ (h4 B:Heap) (a0:Value),Heap.HeldW B X.stack a (.ref C) a0 X.env.locals h4->s'.heap.UpToSlots h4->B.StaysIn s'.heap->(∀ b∈frs X.stack,∃ o,s'.heap.get? b=some o/\∀ vs,o.data≠.fields vs)->(∀ b u,H' b=some u->∃ o,B.get? b=some o)->(∀ b o,s.heap.get? b=some o->b∉frs X.stack->b∉ex->∃ o',B.get? b=some o')->Q () { s' with heap:=h4 }) :
  wpAny (model X.prog X.w) X.A (noteFrame (.ref a) env) Q E s':=by
 have ee:noteFrame (.ref a) env=noteFrame (.ref a) X.env:=by unfold noteFrame PySem.frameOf;rw[he]
 rw[ee];obtain⟨B,st,hen,ff,hB,hC,a0,tr⟩:=g.arr;have hfr:X.A.frames=some (X.env::X.outer):=by rw[ok.frames,hst]
 have fm:∀ b∈frs X.stack,∃ o,s'.heap.get? b=some o/\∀ vs,o.data≠.fields vs:=λb z=>(ff.mem z).2
 have fin:∀ h4,Heap.NotedW B (X.env::X.outer) a (.ref C) a0 (rawInt X.env.locals) s'.heap h4->Q () { s' with heap:=h4 }:=λh4 zz77=>by
  obtain⟨k1,k2,k3,k4⟩:=zz77;rw[<- hst] at k2;exact k h4 B a0 ⟨k1,hen,k2,k3⟩ k4 st fm hB hC
 rw[hst] at ff;rcases tr with ⟨fl,tr⟩ | ⟨oe,vs,e1,e2,e3,e4,e5⟩
 .exact zLf hfr ff hf tr st hen fin
 .unfold noteFrame;simp only[hf];refine qQ (wpAny_field e1 e3 e4 ?_);rw[if_neg (by decide)];exact wpAny_entryW hfr ff hf e1 st hen e3 (Array.getElem?_eq_some_iff.mp e4).1 e5 (by rw[e2];exact fin)
theorem zIH (hst:X.stack=X.env::X.outer)(hf:X.env.frame=some X.env.locals)(hex:X.ex=[])(I:Inv X pins σ H s)(hfp:∀ b∈ex,FpOk X pins H b)(g:Gone X.prog X.w X.stack ex H H' s s' a C)
  (h:∀ s'',Gone X.prog X.w X.outer [] X.Y5 H' X.s0 s'' a C->Q () s''):wpAny (model X.prog X.w) X.A (leaving X.env (.ref a)) Q E s':=by
 have eq:frs X.stack=X.env.locals::frs X.outer:=by rw[hst];unfold frs;rw[filterMap_cons,hf]
 have low:∀ b o,X.s0.heap.get? b=some o->b∈frs X.stack->b∈frs X.outer:=λb o e z=>by
  rw[eq] at z;rcases mem_cons.mp z with z | z
  .exact absurd (lt_size e) (by rw[z];exact Nat.not_lt.mpr I.ok.above)
  .exact z
 have lowx:∀ b o,X.s0.heap.get? b=some o->b∉ex:=λb o e z=>by
  rcases(hfp b z).2.2.2.1 with q | q
  .rw [hex] at q;cases q
  .exact absurd (lt_size e) (Nat.not_lt.mpr q)
 unfold leaving;refine qQ (zFt hst hf rfl I.ok g λh4 B a0 hh up st fm hB hC=>?_);refine wpAny_landsW hh λh5 fl up5=>?_
 obtain⟨k1,hen,k2,k3⟩:=fl;have b0:Un (frs X.stack) ex X.Y5 H X.s0.heap s.heap:=I.base.mono (λb z=>by rw[eq];exact qY _ z) (λb z=>by rw[hex] at z;cases z);have u1:Un (frs X.stack) ex X.Y5 H' X.s0.heap s'.heap:=b0.trans g.un;have hC0:∀ b o,X.s0.heap.get? b=some o->b∉frs X.stack->b∉ex->∃ o',B.get? b=some o':=λb o e z zx=>by
  obtain⟨o1,e1⟩:=b0.there b o e zx;exact hC b o1 e1 z zx
 have u2:=zSX (ex':=[]) (zId u1 st k1 hC0 fm λb o _=>up.trans up5 b o) λb o e z=>absurd z (lowx b o e)
 rw[hst] at k2;exact h _ ⟨g.os.trans I.os,g.bare,zNr u2 low λb z=>by rw[eq];exact qY _ z,zGs g.hok st k1 hB,B,k1,hen,k2.2.2,hB,λb o e z _=>hC0 b o e (λq=>z (low b o e q)) (lowx b o e),a0,.inl ⟨_,k3⟩⟩
theorem zJW (I:Inv X pins σ H s)(m:Heap.MadeExcOf s.heap h' a (.ref C) vs):Gone X.prog X.w X.stack [] H H s { s with heap:=h',toks:=t' } a C:=by
 have hide:∀ b o,(W.hideAll s.heap (frs X.stack)).get? b=some o->s.heap.get? b=some o:=λb o e=>W.of_hideAll _ e
 refine⟨rfl,I.bare,Un.kept m.keeps,I.hok.kept m.keeps,W.hideAll s.heap (frs X.stack),λb o e=>m.keeps b o (hide b o e),?_,?_,λb u e=>?_,λb o e z _=>⟨o,W.hideAll_get _ e z⟩,?_⟩
 .cases q:(W.hideAll s.heap (frs X.stack)).get? a with
  | none=>rfl
  | some o=>have:=hide a o q;rw[m.new] at this;cases this
 .exact zD9 m.keeps I.stack λb z=>W.hideAll_none _ z
 .obtain ⟨o,q⟩:=zJO (I.hok b u e);exact⟨o,W.hideAll_get _ q λz=>by have:=I.stkFree b z;rw[e] at this;cases this⟩
 .obtain ⟨t,c,_⟩:=m.there;exact⟨.ref t,.inr ⟨_,_,c,rfl,rfl,rfl,rfl⟩⟩
end
def XA (X:Cx)(pins:List (Addr×Obj))(H0:Hp)(c:Str)(e:Value)(s':Shared):Prop :=
 ∃ a C σ H s H' ex,e=.ref a/\zAp X.K c C/\Inv X pins σ H s/\Same H0 H'/\(∀ b∈ex,FpOk X pins H b)/\Gone X.prog X.w X.stack ex H H' s s' a C
def GX {O:Type}(X:Cx)(m:Sem O)(f:Dst->Option Str):Prop:=∀ (pins:List (Addr×Obj)) (s:Shared) (σ:St) (H H0:Hp) (S:List Addr) (G:Dst) (c:Str),Inv X pins σ H s->DS X.K H S σ G->Same H0 (hide H S)->f G=some c ->
 wpAny (model X.prog X.w) X.A m (λ_ _=>False) (XA X pins H0 c) s
abbrev GXs (X:Cx) (st:Stmt) (f:Dst->Option Str):Prop:=GX X (exec st X.env) f
abbrev GXss (X:Cx) (st:List Stmt) (f:Dst->Option Str):Prop:=GX X (execs st X.env) f
section
variable {X:Cx}
theorem zAM {O:Type}{m:Sem O}:GX X m λ_=>none:=λ_ _ _ _ _ _ _ _ _ _ _ q=>nomatch q
end
abbrev bmV:List Value:=[.type "ValueError",.type "Exception",.type "BaseException",.type "object"]
theorem zPV {K:W.Frag}(X:K.In h)(q:W.excIn K C bmV "ValueError.__new__"=true):∃ bm N nm qn bs hdct sn sub ab col dd k0 k1 k2 k3 k5 mN,h.get? C=some (excClassObj nm qn C N bs bm hdct sn sub ab col dd k0 k1 k2 k3 k5 "ValueError.__new__")/\h.Ns N mN/\mN "__init__"=none/\OwnTail h bmV bm:=by
 unfold W.excIn at q;split at q
 .rename_i dd g sl e;split at q
  .rename_i k bm k0 k1 k2 k3 n k5 b c;simp only[yx,beq_iff_eq,Bool.not_eq_true'] at q;obtain⟨⟨⟨⟨⟨rfl,rfl⟩,hdel⟩,ht⟩,hok⟩,hni⟩:=q;obtain⟨nm,bs,j,i,qn,d,sn,sub,ab,col,f⟩:=g;dsimp only at b hdel hok hni;subst b hdel;have a:sl=#[k0,k1,k2,k3,some (.builtin "ValueError.__new__"),k5]:=by
    obtain⟨l⟩:=sl;simp only at c;rw[c]
   subst a;exact⟨bm,i,nm,qn,bs,d,sn,sub,ab,col,dd,k0,k1,k2,k3,k5,_,X _ _ e,.of_isNs (W.isNs_of_in X hok),W.nsMap_none_of_in X hok hni,W.tail_of_in X ht⟩
  .cases q
 .cases q
section
variable {X:Cx}
noncomputable def zMx (c:Str)(g:Dst->Option (List D)):Dst->Option Str:=λG=>(g G).bind λds=>if ds.length<=10 then some c else none
theorem zL0 {c:Str}{C:Addr}{Q a pos:Pos}{e:Expr}{es:List Expr}{g:Dst->Option (List D)}(hn:X.xe=λ_ _=>False)(f:X.calm=true)(P:Gl X c)(R:X.mg c=some (.ref C))(hc:zAp X.K c C)
  (q:W.excIn X.K C bmV "ValueError.__new__"=true) (o:(c==("__debug__":Str))=false) (ha:GA X (e::es) g) (O:starEach (e::es) X.env=(false,eval e X.env)::starEach es X.env) (t:∀ pos,(backTo pos (starEach es X.env)).any (·.1)=false) :
  GXs X (.Raise (some (.Call (.Name c Q) (e::es) [] a)) none pos) (zMx c g):=λpins s σ H H0 S G c' I d V eq=>by
 obtain⟨n,e1,l⟩:=bind_some eq;by_cases hl:n.length<=10
 .rw [if_pos hl] at l;cases l;obtain⟨bm,N,nm,U,bs,hdct,sn,sub,ab,col,dd,k0,k1,k2,k3,k5,mN,Y,Z,p,T⟩:=zPV I.ok.mod.kin q;refine wpAny_Raise_call_subT (C:=C) (nm:=nm) (q:=U) (N:=N) (bs:=bs) (bm:=bm) (hdct:=hdct) (sn:=sn) (sub:=sub) (ab:=ab) (col:=col) (dd:=dd) (k0:=k0) (k1:=k1) (k2:=k2) (k3:=k3) (k5:=k5)
   F.excBase_ValueError (mN:=mN) (T.hasType (by decide)) (I.ok.hd f) (by rw[O];show (false||(backTo a (starEach es X.env)).any (·.1))=false;rw[t];rfl) p (zDG I P R ⟨rfl,?_⟩ o)
  have h:=ha a pins s σ H (λvs i=>Same H i/\DenL X.K (hide i S) n vs) I ⟨S,G,n,d,e1,λvs i z r=>⟨z,r⟩⟩;rw[O] at h ⊢;refine Calls.evalArgs_plain (wpAny_mono h (λus J ⟨vs,i,j,r,z,dl⟩=>⟨rfl,?_,j.bk _ _ Y,Z.keeps j.bk,T.keeps j.bk,λh' ea m=>?_⟩) λ_ _ z=>by rw[hn] at z;exact z.elim)
  .have l1:=dl.length;have l2:=r.length;exact le_trans (show us.length<=10 by omega) (by decide)
  .exact ⟨ea,C,σ,i,J,i,[],rfl,hc,j,V.trans ((zAP z).trans zAi),λb z=>(by cases z),zJW (t':=J.toks) j m⟩
 .rw [if_neg hl] at l;cases l
theorem zLt {σ:St}(I:Inv X pins σ H s)(A:h'.Ns X.env.locals m')(h:Heap.SameBut X.env.locals s.heap h') :
  Inv X pins (List.replicate X.N.length none) H { s with heap:=h',toks:=t' }:=by
 have d:∀ b o,X.s0.heap.get? b=some o->b≠X.env.locals:=λb o e z=>absurd (lt_size e) (by rw[z];exact Nat.not_lt.mpr I.ok.above)
 refine⟨I.ok,I.os,I.bare,⟨λb o q n k i=>?_,λb o q n k i=>?_,I.base.free,λb o q i=>?_,I.base.tups,I.base.frzs,I.base.tbls⟩,⟨m',A,λi x v l j _=>?_⟩,λx c e=>?_,I.free,I.freeC,λp B=>?_,λa o e=>?_,by simp⟩
 .exact (h.2 b (d b o q)).trans (I.base.keep b o q n k i)
 .obtain ⟨sl,e⟩:=I.base.slot b o q n k i;exact⟨sl,(h.2 b (d b o q)).trans e⟩
 .obtain ⟨t,e⟩:=I.base.there b o q i;exact⟨t,(h.2 b (d b o q)).trans e⟩
 .rw [getElem?_replicate] at j;split at j<;>cases j
 .obtain ⟨v,o,y,r⟩:=I.cell x c e;exact⟨v,o,(h.2 c (I.cne x c e)).trans y,r⟩
 .obtain ⟨l,j,m,w⟩:=I.pin p B;exact⟨(h.2 p.1 m).trans l,j,m,w⟩
 .refine (I.hok a o e).stay (λb u q g=>?_) (λ_ q=>q) (λ_ _ q=>q) λ_ _ _ q _=>q
  have:b≠X.env.locals:=λz=>by
   have f:=I.free;rw[<- z] at f;rcases q with q | q
   .rw [q,e] at f;cases f
   .rw [q] at f;cases f
  exact(h.2 b this).trans g
theorem zJd {σ:St}{Q:Shared->Prop}(hst:X.stack=X.env::X.outer)(hf:X.env.frame=some X.env.locals)(I:Inv X pins σ H s)(g:Gone X.prog X.w X.stack ex H H' s s' a C)
  (h:∀ (h5:Heap) (B:Heap) (a0:Value),Heap.FlyingW B X.stack a (.ref C) a0 h5->Un (frs X.stack) ex H H' s.heap h5->HOk X.prog X.w H' h5->(∀ b u,H' b=some u->∃ o,B.get? b=some o)->(∀ b o,s.heap.get? b=some o->b∉frs X.stack->b∉ex->∃ o',B.get? b=some o')->Q { s' with heap:=h5 }) :
  wpAny (model X.prog X.w) X.A (noteFrame (.ref a) X.env) (λ_ s2=>wpAny (model X.prog X.w) X.A (setFlight (.ref a) none) (λ_ s3=>Q s3) E s2) E s' :=
 zFt hst hf rfl I.ok g λh4 B a0 hh up st fm hB hC=>wpAny_landsW hh λh5 fl up5=>h h5 B a0 fl (zId g.un st fl.1 hC fm λb o _=>up.trans up5 b o) (zGs g.hok st fl.1 hB) hB hC
theorem zJt {σ:St}(I:Inv X pins σ H s)(p:Heap.FlyingW B X.stack a (.ref C) a0 h5)(un:Un (frs X.stack) ex H H' s.heap h5)(j:HOk X.prog X.w H' h5)
  (x:∀ b u,H' b=some u->∃ o,B.get? b=some o) (t:∀ b o,s.heap.get? b=some o->b∉frs X.stack->b∉ex->∃ o',B.get? b=some o') :
  ∃ oe,H' a=none/\oe.cls=.ref C/\(∃ vs,oe.data=.fields vs)/\h5.get? a=some oe/\Un (frs X.stack) ex H (upd H' a (.frz oe (.ext λ_=>True))) s.heap h5/\HOk X.prog X.w (upd H' a (.frz oe (.ext λ_=>True))) h5:=by
 obtain⟨G,h,w,oe,vs,T,F,J,i,⟨d,E⟩,hd,_⟩:=p;have k:H' a=none:=by
  cases q:H' a with
  | none=>rfl
  | some u=>obtain⟨o,e⟩:=x a u q;rw[h] at e;cases e
 have m:∀ b o,s.heap.get? b=some o->b∉ex->b≠a:=λb o q y v=>by
  subst v;by_cases z:b∈frs X.stack
  .obtain ⟨_,o',f,A⟩:=w.mem z;rw[i] at f;cases f;exact absurd hd (A vs)
  .obtain ⟨o',f⟩:=t b o q z y;rw[h] at f;cases f
 have c:Same H' (upd H' a (.frz oe (.ext λ_=>True))):=zAU k _;refine⟨oe,k,d,⟨vs,hd⟩,i,⟨un.keep,un.slot,λb o q n l=>?_,un.there,λb r q=>c _ _ (un.tups b r q),λb o u q=>c _ _ (un.frzs b o u q),λb D q=>?_⟩,λb u e=>?_⟩
 .rw [zAI (m b o q l)];exact un.free b o q n l
 .exact c _ _ (un.tbls b D q)
 .by_cases z:b=a
  .subst z;rw[zAJ] at e;cases e;exact⟨i,True.intro,⟨oe,i⟩,λ_ _ _ _=>True.intro⟩
  .rw [zAI z] at e;exact(j b u e).stay (λ_ _ _ g=>g) (λ_ q=>c _ _ q) (λ_ _ q=>c _ _ q) λ_ _ _ q _=>c _ _ q
end
end DL
end
section
namespace DL
open PySem Spec PyProof.Rows L2 PySem.W Builtin Builtin.ObjectAttr Builtin.Getset_descriptor
section
variable {prog:Program}{w:World}{A:Around}{E:Value->Shared->Prop}{h:Heap}{g:Array GenState}{d:Drawn}{t:Nat}{os:OsState}{a C:Addr}{o:Obj}{K:W.Frag}
theorem zIY (M:Model)(b:h.get? a=some o)(c:o.cls=.ref C):Looks M h (typeOf (.ref a)) (.ref C):=c▸(Looks.ld b).andThen .now
theorem zSW {R:Result->Shared->Prop}(X:K.In h)(b:h.get? a=some o)(c:o.cls=.ref C)(e:mroIn K C (.type "object")=some true)(f:R (.ok (.ret (.ref C))) ⟨h,g,d,t,os⟩) :
  codeAny (model prog w) A (.call (.builtin "getset_descriptor.__get__") ⟨[.builtin "object.__class__",.ref a,tp],[]⟩) R ⟨h,g,d,t,os⟩:=by
 have L0:=zIY (model prog w) b c;have L1:=looks_mroIn (M:=model prog w) X e;refine codeAny_call_builtin KF.slot_gs.plain KF.entry_gs (KF.slot_gs.check _ _ _ _ _ _ _ _ KF.type_class (KF.args_gs _ _ _) ?_);unfold Builtin.«getset_descriptor.__get__» descrGet;rw[dga_obj];refine qQ (xj ?_);unfold descrGetter descrCheckInstance descrNameAndClass isInstance;simp only[KF.owner_class]
 repeat lk
 refine⟨Code.quiet_builtin _ (by decide +kernel),codeAny_builtin KF.entry_class ?_⟩;unfold Builtin.«object.__class__» shownTypeOf
 repeat lk
 exact f
theorem zBX (q:excIn K C bm n=true):(clsIn K C).isSome=true:=by
 unfold excIn at q;split at q
 .rename_i b c sl a;unfold clsIn;rw[a]
  rfl
 .cases q
structure XCls (K:W.Frag)(C:Addr):Prop where
 ga:findIn K (.ref C) "__getattribute__"=some (some (.builtin "BaseException.__getattribute__"))
 gt:findIn K (.ref C) "__getattr__"=some none
 cl:findIn K (.ref C) "__class__"=some (some (.builtin "object.__class__"))
 mo:mroIn K C (.type "object")=some true
 mb:subIn K (.ref C) (.type "BaseException")=some true
 is:(clsIn K C).isSome=true
theorem zNn (X:K.In h)(F:XCls K C)(b:h.get? a=some o)(c:o.cls=.ref C)(i:Q (.done (.ret (.ref C))) ⟨h,g,d,t,os⟩) :
  wpAny (model prog w) A (Builtin.«object.__getattribute__» ⟨[.ref a,.str "__class__" tk],[]⟩) Q E ⟨h,g,d,t,os⟩:=by
 have L0:=zIY (model prog w) b c;have L1:=looks_findIn (M:=model prog w) X F.cl;have e:(⟨h,g,d,t,os⟩:Shared).TypeIs (.builtin "object.__class__") "getset_descriptor":=PySem.F.typeOf_object_class;have k:=PySem.F.typeOf_object_class;have j:=PySem.F.slot_gs_get.lookup;have f:=PySem.F.slot_gs_set.lookup
 repeat (any_goals (first | assumption | (with_reducible refine wpAny_loadPart_at b ?_;rw[c]) | (with_reducible refine L1.at ?_) | wp_step))
 refine zSW X b c F.mo ?_
 repeat (any_goals (first | assumption | wp_step))
theorem zNo (X:K.In h)(F:XCls K C)(i:h.get? a=some o)(c:o.cls=.ref C)(f:Q () ⟨h,g,d,t,os⟩) :
  wpAny M A (checkBuiltinCall "BaseException.__getattribute__" ⟨[.ref a,nameV],[]⟩) Q E ⟨h,g,d,t,os⟩:=by
 have e:builtinKind "BaseException.__getattribute__"=some .slot:=by decide +kernel
 have b:splitId "BaseException.__getattribute__"=some ("BaseException","__getattribute__"):=by decide +kernel
 have L2:=looks_subIn (M:=M) X F.mb;have j:=PySem.F.args_bexc_ga (.ref a) nameV;simp only[checkBuiltinCall,e,b];refine qQ ?_
 .unfold isInstance
  repeat (first | (with_reducible refine wpAny_loadPart_at i ?_;rw[c]) | (with_reducible refine L2.at ?_) | wp_step)
  exact f
theorem x_by (X:K.In h)(F:XCls K C)(b:h.get? a=some o)(e:o.cls=.ref C)(i:Q (.ref C) ⟨h,g,d,t,os⟩):wpAny (model prog w) A (getAttrBy (.ref a) (.str "__class__" tk) false) Q E ⟨h,g,d,t,os⟩:=by
 have j:=PySem.F.attr_ValueError.ga.bind (.ref a);have L1:=looks_findIn (M:=model prog w) X F.ga;have L2:=looks_findIn (M:=model prog w) X F.gt;have c:(Value.builtin "BaseException.__getattribute__"==Value.builtin "object.__getattribute__")=false:=by decide +kernel
 have f:(onTheHeap (Value.ref C)&&Value.builtin "BaseException.__getattribute__"==Value.builtin "object.__getattribute__")=false:=by rw[c];rfl
 repeat (any_goals (first | assumption | (with_reducible refine wpAny_loadPart_at b ?_;rw[e]) | (with_reducible refine L1.at ?_) | (with_reducible refine L2.at ?_) | wp_step))
 refine codeAny_call_builtin PySem.F.attr_ValueError.ga.plain PySem.F.entry_bexc_ga (zNo X F b e (zNn X F b e ?_))
 repeat (any_goals (first | assumption | wp_step))
theorem zPy (X:K.In h)(F:XCls K C)(b:h.get? a=some o)(c:o.cls=.ref C)(e:Q (some (.ref C)) ⟨h,g,d,t+1,os⟩):wpAny (model prog w) A (getAttr? (.ref a) "__class__") Q E ⟨h,g,d,t,os⟩:=by
 unfold getAttr? getAttrBy?
 repeat (any_goals (first | assumption | with_reducible apply x_by X F b c | wp_step))
theorem zHU (F:XCls K C):KitX K (.ref a) (.ref C) (λh=>∃ o,h.get? a=some o/\o.cls=.ref C) where
 ty:=λM h _ c=>by obtain⟨o,p,m⟩:=c;exact zIY M p m
 it:=λ_ _ X _=>by
  have b:=F.is;unfold clsIn at b;split at b
  .rename_i u v r l i;intro E D y A k q;unfold isType loadHead;exact qQ (wpAny_loadPart (k _ _ (X _ _ i)) (xj q))
  .cases b
 ne:=λh w B x n sl X j=>by
  have b:=F.is;refine Bool.eq_false_iff.mpr λq=>?_
  have e:C=w:=Value.ref.inj (beq_iff_eq.mp q);subst e;unfold clsIn at b;split at b
  .rename_i u v r l i;have z:=(X _ _ i).symm.trans j;cases z
  .cases b
 ca:=λ{_ _ _ _ _ s} X f k=>by
  obtain⟨o,p,m⟩:=f;obtain⟨h,g,d,t,G⟩:=s;exact zPy X F p m k
end
end DL
end
section
namespace DL
open PySem Spec PyProof.Rows L2
section
variable {X:Cx}
noncomputable def iscF (sub:Str->Option Bool):D->Option R
 | .exc c=>(sub c).bind λb=>some (.bl b,.cl)
 | _=>none
theorem zMn {sub:Str->Option Bool}(m:∀ u',RelV vy u'->u'=u)(l:∀ c b,sub c=some b->∀ C,zAp X.K c C->XCls X.K C/\W.kitOne X.K (.ref C) u=some b) :
  zCi X (.builtin "isinstance") (λxs H Q=>∃ v c b,xs=[v,vy]/\Den X.K H (.exc c) v/\sub c=some b/\Q (.bl b) H):=by
 intro d s σ H xs us Q I r h;obtain⟨v,c,b,rfl,f,e,q⟩:=h;obtain⟨u',p,rfl,r1,r2⟩:=zHv r;obtain rfl:=m p r2;rw[Den] at f;obtain⟨a,o,w,C,rfl,i,k,t,n⟩:=f;cases r1;obtain⟨g,j⟩:=l c b e C n;exact W.kia_one (zHU g) I.kIn ⟨o,(I.hok a _ i).1,k⟩ j (λz=>nomatch z) λtk=>⟨.bl b,H,I.tok tk,rfl,q⟩
theorem zRo (k:Gl X "isinstance")(j:X.mg "isinstance"=none)(s:PE X (.Name y p2) (tC vy))(h:∀ u',RelV vy u'->u'=u)
  (l:∀ c b,sub c=some b->∀ C,zAp X.K c C->XCls X.K C/\W.kitOne X.K (.ref C) u=some b) (r:GE X e f)
  (a:starEach [e,.Name y p2] X.env=(false,eval e X.env)::starEach [.Name y p2] X.env):GE X (.Call (.Name "isinstance" p) [e,.Name y p2] [] pos) (one f (iscF sub)):=by
 refine(zC0 (zMn h l) k j boot_isinstance (zAR r (zAR s zAs rfl) a) (by decide) (by decide) a rfl).imp fun σ H Q zz79=>?_
 obtain⟨S,G,z,g,e,c⟩:=zz79;obtain⟨x,q,e⟩:=bind_some e;unfold iscF at e;split at e
 .rename_i i n;obtain⟨b,d,e⟩:=bind_some e;cases e;exact⟨S,G,x,g,q,λvx o m r1=>⟨vx,i,b,rfl,n▸r1.rd.whole,d,c _ o m (.bl _)⟩⟩
 .cases e
end
end DL
end
section
namespace DL
open PySem Spec PyProof.Rows L2
section
variable {X:Cx}
noncomputable def chD (o o':D->D->Option R)(f g h:Dst->Option R):Dst->Option R:=λG=>(f G).bind λx=>(g G).bind λy=>match o x.1 y.1 with
 | some (.bl true,_)=>(h G).bind λz=>o' y.1 z.1
 | some (.bl false,_)=>some (.bl false,.cl)
 | _=>none
theorem zHK (t:OpD X.K r o)(l:OpD X.K r' o'){σ:St}(q:gT X.K (chD o o' f g h) σ H Q):zIg r r' (gT X.K f) (gT X.K g) (gT X.K h) σ H Q:=by
 obtain⟨S,G,z,i,e,c⟩:=q;obtain⟨x,v,e⟩:=bind_some e;obtain⟨y,C,e⟩:=bind_some e;refine⟨S,G,x,i,v,λvx K b r1=>⟨S,G,y,i.mono b,C,λvy n a r2=>?_⟩⟩;split at e
 .rename_i k m;obtain⟨w,u,e⟩:=bind_some e;refine t S n x.1 y.1 _ vx vy _ (i.mono (b.trans a)).sok m (r1.rd.mono a) r2.rd λv s d r3=>⟨true,r3.rd.bl,?_⟩
  refine⟨S,G,w,i.mono (b.trans (a.trans d)),u,λvw E j F=>?_⟩;exact l S E y.1 w.1 z vy vw Q (i.mono (b.trans (a.trans (d.trans j)))).sok e (r2.rd.mono (d.trans j)) F.rd λv' I A B=>c v' I (b.trans (a.trans (d.trans (j.trans A)))) (B.from (b.trans (a.trans (d.trans j))))
 .rename_i k m;cases e;refine t S n x.1 y.1 _ vx vy _ (i.mono (b.trans a)).sok m (r1.rd.mono a) r2.rd λv s d r3=>⟨false,r3.rd.bl,?_⟩
  exact c _ s (b.trans (a.trans d)) (.bl _)
 .cases e
noncomputable def chB (op:CmpOp):Bool:=decide (op=.Lt)||decide (op=.LtE)||decide (op=.Gt)||decide (op=.GtE)
theorem zHP (h:chB op'=true):lastMarks [op,op'] [b,c]=false:=by
 unfold chB at h
 simp_all
 rcases h with ((h | h) | h) | h<;>subst h<;>exact zQv c
noncomputable def zIf:D->Option R
 | .lst ds=>some (.tup ds,.cl)
 | .tup ds=>some (.tup ds,.cl)
 | _=>none
theorem zJB:OpD1 X.K (λxs H Q=>∃ p ys,xs=[.ref p]/\((SqL X.K H p ys/\∀ l,H l=none->Q (.ref l) (upd H l (.tup ys)))\/(SqT X.K H p ys/\Q (.ref p) H))) zIf:=by
 intro S H x z k Q g e i c;unfold zIf at e;split at e
 .cases e;obtain⟨a,d,rfl,b,f⟩:=i.lst;exact⟨a,d,rfl,.inl ⟨b,λp n=>c _ _ (zAU n _) (.tupNew g n f)⟩⟩
 .cases e;rcases i with h | ⟨a,d,ds',b,f,_⟩
  .have j:=h;obtain⟨a,d,rfl,b,f⟩:=h;exact⟨a,d,rfl,.inr ⟨Same.tupS zAi b,c _ H (Same.refl _) j⟩⟩
  .cases f
 .cases e
end
end DL
namespace DL
open PySem Spec PyProof.Rows L2
noncomputable def extD (i:Nat)(f:Dst->Option R):Dst->Option Out:=λG=>match G[i]? with
 | some (some (.lst xs,true))=>(f G).bind λr=>match r with
  | (.lst ys,.fr)=>if xs.length+ys.length<=10000 then some (.nx (G.set i (some (.lst (xs++ys),true)))) else none
  | _=>none
 | _=>none
theorem zRV (Q:X.N[i]?=some x)(U:Vis X.env.scope x)(M:(x==("__debug__":Str))=false)(n:(x==("__classdict__":Str))=false)(h:GE X e f)
  (k:starEach [e] X.env=[(false,eval e X.env)]) (d:attributeBase (.Name x npos) "extend" X.env (eval (.Name x npos) X.env)=eval (.Name x npos) X.env) (c:(apos.endLine==cpos.line)=true) :
  GS X (.Expr (.Call (.Attribute (.Name x npos) "extend" apos) [e] [] cpos) pos) (extD i f):=λH0=>(zDB (zGd PySem.F.plainAttrs_list PySem.F.slot_list_extend PySem.F.type_list_extend zJU (zDR Q U M n) (zAR h zAs k) d (by rw[k];rfl) c k rfl) rfl).imp λE σ H g=>by
 obtain⟨S,G,o,l,P,e,p⟩:=g;unfold extD at e;split at e
 .rename_i C q;obtain⟨r,R,e⟩:=bind_some e;split at e
  .rename_i E;by_cases hl:C.length+E.length<=10000
   .rw [if_pos hl] at e;cases e;obtain⟨v,F,V⟩:=l.get i _ true q;obtain⟨a,s,es,rfl,O,J,D,I⟩:=V.ownL rfl;cases O;refine⟨.ref a,F,.inl ⟨rfl,_,SqL.of D⟩,S,G,_,l,R,λy A j r1=>?_⟩;obtain⟨b,y,N,rfl,L,Y,Z,u,B⟩:=r1;cases L;have w:=I.mono (zAP j (S:=S));have m:=B.mono (zCD (H:=A) (S:=S) (T:=b::S) λc z=>qY _ z);have W:=I.length;have l2:=B.length;refine⟨a,b,s,y,rfl,rfl,j _ _ D,u,le_trans (show s.length+y.length<=10000 by omega) (by decide),?_⟩;have t:DenL X.K (hide A S) (C++E) (s++y):=w.append m;have K:=(l.mono j).change (i:=i) q F t;refine p S σ _ K ?_;rw[zFH J];exact P.trans (zAP j)
   .rw [if_neg hl] at e;cases e
  .cases e
 .cases e
end DL
namespace DL
open PySem Spec PyProof.Rows L2
section
variable {X:Cx}
structure Tgt (X:Cx)(i:Nat)(x:Str):Prop where
 at_:X.N[i]?=some x
 loc:Loc X.env.scope x
 fn:X.fn x=true\/X.env.scope.names.lookup x=some .local
end
end DL
end
section
namespace DL
open PySem
theorem zIF:typeLookup (.type "list_reverseiterator") "__len__"=pure none:=by rw[typeLookup_type];kernel_rfl
theorem zLn:typeLookup (.type "list_reverseiterator") "__length_hint__"=pure (some (.builtin "list_reverseiterator.__length_hint__")):=by rw[typeLookup_type];kernel_rfl
theorem zLm:isSubtype (.type "list_reverseiterator") (.type "list_reverseiterator")=pure true:=by rw[isSubtype_type];kernel_rfl
section
variable {prog:Program}{w:World}{A:Around}{E:Value->Shared->Prop}{s:Shared}{I l:Addr}{items:Array Value}
theorem zLw (a:s.TypeIs (.ref I) "list_reverseiterator")(h:Q false s):wpAny M A (Builtin.List.listLengthHint (.ref I)) Q E s:=by
 unfold Builtin.List.listLengthHint;refine qQ (wpAny_specialOf a zIF ?_);show wpAny _ A (specialOf (Value.ref I) (Str.ofString "__length_hint__")>>=_) _ _ _;refine qQ (wpAny_specialOf a zLn ?_);have b:splitId "list_reverseiterator.__length_hint__"=some ("list_reverseiterator","__length_hint__"):=by decide +kernel
 simp only[b];unfold isInstance;refine qQ (qQ (wpAny_typeOf a (wpAny_of_eq zLm ?_)));rw[if_neg (show ¬ ((!true)=true) by decide)];rw[if_pos (by decide +kernel)];rw[if_neg (by decide +kernel)];exact xj h
theorem zFS (S:A.handled=none)(u:l≠I)(c:s.heap.IsRevIter I l ((items.size:Int) - 1))(C:s.heap.IsList l items)(P:items.size<=10000)
  (N:∀ s' acc' c',Moved (s.heap.objs.size::[I]) (λa b=>b=a) { s with heap:=s.heap.push { cls:=.type "list",data:=.seq #[] } } s' ->
   s'.heap.get? s.heap.objs.size=some { cls:=.type "list",dict:=none,data:=.seq acc' c',slots:=#[] }->ItemsOf (λi v=>items[items.size - 1 - i]?=some v) acc' items.size->Q (.ref s.heap.objs.size) s') :
  wpAny (model prog w) A (call (.type "list") [.ref I]) Q E s:=by
 have W:=(Walks.listRev (prog:=prog) (w:=w) (A:=A.in1.in1) S I l u items).toS;have R:(items.size:Nat)>=0/\True:=⟨zero_le _,trivial⟩;have t:(λ(i:Nat) (s:Shared)=>i<=items.size/\s.heap.IsRevIter I l ((items.size:Int) - 1 - (i:Int))/\s.heap.IsList l items) 0 s:=⟨zero_le _,by simpa using c,C⟩;have d:I < s.heap.objs.size:=by obtain⟨o,e,_⟩:=c;exact lt_size e
 have p:l < s.heap.objs.size:=by obtain⟨o,e,_⟩:=C;exact lt_size e
 have q:s.heap.objs.size∉[I,l]:=λhm=>by
  rcases mem_cons.mp hm with e | e
  .exact lt_irrefl _ (e▸d)
  .exact lt_irrefl _ ((mem_singleton.mp e)▸p)
 have L:items.size<=sizeLine:=le_trans P (by decide);refine callType_codes (Q₁:=λobj z=>obj=.ref s.heap.objs.size/\z={ s with heap:=s.heap.push { cls:=.type "list",data:=.seq #[] } }) F.called_list (F.typeCall_list_1 _) F.entry_list_init
  (code_list_new _ ⟨rfl,rfl⟩) λobj z K=>?_
 obtain⟨rfl,rfl⟩:=K;have n:(s.heap.push { cls:=.type "list",data:=.seq #[] }).get? s.heap.objs.size=some { cls:=.type "list",data:=.seq #[] }:=get?_push_size _ rfl;refine⟨⟨_,n,rfl⟩,F.args_list_init_2 _ _,?_⟩;show wpAny _ A.in1.in1 (do let y<-Builtin.List.listItems (.ref s.heap.objs.size);Builtin.List.listUpdate (.ref s.heap.objs.size) (λ_=>#[]);letGo y.toList.reverse;Builtin.List.listExtendWith (.ref s.heap.objs.size) (.ref I) .none) _ _ _;refine qQ ?_;unfold Builtin.List.listItems;refine qQ (wpAny_seqItems n rfl (xj ?_));show wpAny _ A.in1.in1 (updateSeq s.heap.objs.size (λ_=>#[])>>=λ_=>letGo (#[]:Array Value).toList.reverse>>=λ_=>Builtin.List.listExtendWith (.ref s.heap.objs.size) (.ref I) .none) _ _ _;refine qQ (wpAny_updateSeq n rfl ?_);have x:=Heap.get?_update_self (Obj.mapSeq (λ_=>(#[]:Array Value))) n rfl;refine qQ (wpAny_letGo ?_);have g:∀ b o,b≠s.heap.objs.size->(s.heap.push { cls:=.type "list",data:=.seq #[] }).get? b=some o->((s.heap.push { cls:=.type "list",data:=.seq #[] }).update s.heap.objs.size (Obj.mapSeq (λ_=>(#[]:Array Value)))).get? b=some o :=
  λb o m e=>(Heap.get?_update_other _ _ (Ne.symm m)).trans e
 have B:∀ (b:Nat) o,s.heap.get? b=some o->((s.heap.push { cls:=.type "list",data:=.seq #[] }).update s.heap.objs.size (Obj.mapSeq (λ_=>(#[]:Array Value)))).get? b=some o:=λb o e=>g b o (ne_of_lt (lt_size e)) (get?_push_of_some _ e)
 have f:=c.at (h':=(s.heap.push { cls:=.type "list",data:=.seq #[] }).update s.heap.objs.size (Obj.mapSeq (λ_=>(#[]:Array Value)))) λo e=>B I o e
 have G:({ s with heap:=(s.heap.push { cls:=.type "list",data:=.seq #[] }).update s.heap.objs.size (Obj.mapSeq (λ_=>(#[]:Array Value))) }:Shared).TypeIs (.ref I) "list_reverseiterator":=f.typeIs;have k:=W.frame 0 s ((s.heap.push { cls:=.type "list",data:=.seq #[] }).update s.heap.objs.size (Obj.mapSeq (λ_=>(#[]:Array Value)))) s.toks t (le_refl _) λb m o e=>B b o e
 unfold Builtin.List.listExtendWith;refine qQ (wpAny_typeOf G ?_);have J:Builtin.List.listSameRef (.ref s.heap.objs.size) (.ref I)=false:=by
  have:s.heap.objs.size≠I:=Nat.ne_of_gt d;simp[Builtin.List.listSameRef,this]
 have O:(Value.type "list_reverseiterator"==Value.type "list")=false:=by decide
 have M:(Value.type "list_reverseiterator"==Value.type "tuple")=false:=by decide
 simp only[J,O,M,Bool.or_false,Bool.false_eq_true,if_false];refine qQ (W.self 0 _ _ _ k ?_);refine qQ (wpAny_holding (zLw G ?_));rw[if_neg (by decide +kernel)];refine xj ⟨plainId_quiet F.plain_extend_loop _,codeAny_extend_loopS W L _ q _ items.size 0 _ _ _ rfl (zero_le _) k x (ItemsOf.nil _) λs' acc' c' hm r j=>?_⟩;have H:Moved (s.heap.objs.size::[I]) (λa b=>b=a) { s with heap:=s.heap.push { cls:=.type "list",data:=.seq #[] } } { s with heap:=(s.heap.push { cls:=.type "list",data:=.seq #[] }).update s.heap.objs.size (Obj.mapSeq (λ_=>(#[]:Array Value))) } :=
  ⟨λb o m e=>g b o (λh=>m (by rw[h];exact xy)) e,rfl,rfl,rfl,le_refl _⟩
 exact⟨rfl,N s' acc' c' (Moved.trans W.gtrans H hm) r j⟩
end
end DL
namespace DL
open PySem Spec PyProof.Rows L2
theorem zLC (h:Vals xs us):Vals xs.reverse us.reverse:=by
 induction h with
 | nil=>exact .nil
 | cons r t a =>
  simp;exact a.append (.cons r .nil)
theorem DenL.rev {K:W.Frag}:∀ {ds:List D} {vs:List V},DenL K H ds vs->DenL K H ds.reverse vs.reverse
 | [],_,h=>by rw[DenL] at h;subst h;exact .nil
 | d::ds,_,h=>by
  rw[DenL] at h;obtain⟨v,ws,rfl,h1,h2⟩:=h;rw[reverse_cons,reverse_cons];exact(DenL.rev h2).append (.cons h1 .nil)
theorem zMr:bootBuiltins "reversed"=some (.type "reversed"):=by decide
noncomputable def revD:D->Option R
 | .lst xs=>if xs.length<=10000 then some (.lst xs.reverse,.fr) else none
 | _=>none
section
variable {X:Cx}
theorem zJo {a:List Value}(h:ItemsOf (λi v=>a.toArray[a.toArray.size - 1 - i]?=some v) acc a.toArray.size):acc=a.reverse.toArray:=by
 apply Array.ext';apply List.ext_getElem?;intro j;obtain⟨c,b⟩:=h;by_cases hj:j < acc.size
 .have e:=b j _ (Array.getElem?_eq_getElem hj);simp;grind
 .simp_all
theorem zIO (j:X.calm=true)(B:Gl X "list")(w:X.mg "list"=none)(J:Gl X "reversed")(M:X.mg "reversed"=none)(ha:GE X a f)
  (W:starEach [a] X.env=[(false,eval a X.env)]) :
  GE X (.Call (.Name "list" p) [.Call (.Name "reversed" p2) [a] [] pos2] [] pos) (one f revD):=by
 intro i s σ H Q I ⟨S,G,r,P,e,c⟩;obtain⟨x,ex,e⟩:=bind_some e;unfold revD at e;split at e
 .rename_i N C;by_cases ok:N.length<=10000
  .rw [if_pos ok] at e;cases e;refine wpAny_Call_Name_kw (zCa I B w boot_list ?_ (by decide) (by decide));refine PyProof.Rows.callWith_type1 ?_ rfl rfl;show wpAny _ _ (spliced ((false,eval (.Call (.Name "reversed" p2) [a] [] pos2) X.env)::[])) _ _ s;refine Calls.spliced_cons ?_;refine wpAny_Call_Name_kw (zCa I J M zMr ?_ (by decide) (by decide));refine PyProof.Rows.callWith_type1 (thn ((zAR ha zAs W) pos2 i s σ H (λvs T=>∃ vx,vs=[vx]/\Same H T/\Rdv X.K T S x.1 vx) I
    ⟨S,G,x,P,ex,λvx D d r1=>⟨vx,rfl,d,r1.rd⟩⟩) λus d ⟨vs,D,u,r1,q1⟩=>?_) W rfl
   obtain⟨vx,rfl,F,V⟩:=q1;rw[C] at V;obtain⟨n,y,rfl,Z,R⟩:=V.lst;obtain⟨u1,rfl,A⟩:=zFa r1;cases A;obtain⟨g,t,E,z1⟩:=u.list Z;have n1:N.length=y.length:=R.length;have m1:=t.length;have K:n < d.heap.objs.size:=by obtain⟨o,q,_⟩:=E.isList;exact lt_size q
   refine call_reversed_list E.isList ?_;refine Calls.spliced_nil ?_;have U:∀ b o,d.heap.get? b=some o->(d.heap.push (revObj n ((g.toArray.size:Int) - 1))).get? b=some o:=λb o q=>get?_push_of_some _ q
   refine zFS (s:={ d with heap:=d.heap.push (revObj n ((g.toArray.size:Int) - 1)) }) (I:=d.heap.objs.size) (l:=n) (items:=g.toArray) (u.ok.hd j) (ne_of_lt K) ⟨_,get?_push_size _ rfl,rfl,rfl⟩ (E.isList.at λo q=>U _ o q) (by rw[xX];omega) λs' Y c' m h L=>?_
   have sz:({ d with heap:=d.heap.push (revObj n ((g.toArray.size:Int) - 1)) }:Shared).heap.objs.size=d.heap.objs.size+1:=Heap.size_push _ _;rw[sz] at m h ⊢;obtain rfl:=zJo L;have kp:∀ b o,d.heap.get? b=some o->s'.heap.get? b=some o:=λb o q=>by
    have O:b < d.heap.objs.size:=lt_size q;refine m.heap b o (λz=>?_) (get?_push_of_some _ (U b o q));rcases mem_cons.mp z with z | z
    .exact absurd O (by rw[z];exact Nat.not_lt.mpr (Nat.le_succ _))
    .exact absurd O (by rw[mem_singleton.mp z];exact lt_irrefl _)
   have es:s'={ d with heap:=s'.heap,toks:=s'.toks }:=by
    obtain⟨h',g',d',t',o'⟩:=s';have e1:g'=d.gens:=m.gens;have e2:d'=d.drawn:=m.drawn;have e3:o'=d.os:=m.os;subst e1 e2 e3
    rfl
   have fr:D (d.heap.objs.size+1)=none:=u.hok.fresh (Nat.le_succ _);have I2:Inv X i σ (upd D (d.heap.objs.size+1) (.lst y.reverse)) { d with heap:=s'.heap,toks:=s'.toks } :=
    u.laid kp (Nat.le_succ _) (show zBV X.prog X.w _ _ _ (.lst y.reverse) from ⟨by rw[List.length_reverse];exact z1,g.reverse,c',zLC t,h⟩)
   rw[es];refine⟨.ref (d.heap.objs.size+1),_,I2,rfl,c _ _ (F.trans (zAU fr _)) (.lstNew F (P.mono F).sok fr R.rev)⟩
  .rw [if_neg ok] at e;cases e
 .cases e
end
end DL
end
section
namespace DL
open PySem Spec PyProof.Rows L2
section
variable {X:Cx}
noncomputable def augI:Operator->Int->Int->Option Int
 | .Add,a,b=>some (a+b)
 | .Sub,a,b=>some (a - b)
 | _,_,_=>none
noncomputable def augD (op:Operator)(i:Nat)(f:Dst->Option R):Dst->Option Out:=λG=>match G[i]? with
 | some (some (.int a,false))=>(f G).bind λr=>match r.1 with
  | .int b=>(augI op a b).bind λc=>some (.nx (G.set i (some (.int c,false))))
  | _=>none
 | _=>none
theorem zRW (F:X.N.Nodup)(K:X.N[i]?=some x)(O:Loc X.env.scope x)(h:GE X e f)(J:X.fn x=true\/X.env.scope.names.lookup x=some .local) :
  GS X (.AugAssign (.Name x pos') op e pos) (augD op i f):=λH0=>by
 have z:∀ (g:Int->Int->Int),(∀ a b,augI op a b=some (g a b))->OpR X (inplaceOp op) (rI0 λi j=>.int (g i j))->PS X (.AugAssign (.Name x pos') op e pos) (gS X.K H0 (augD op i f)):=λg hg M=>(zQW F K O h (λpins s σ H x y v u Q I L P q=>M pins s σ H x y v u Q I L P q) J).imp λE σ H c=>by
  obtain⟨S,G,o,m,t,e,p⟩:=c;unfold augD at e;split at e
  .rename_i a q;obtain⟨r,w,e⟩:=bind_some e;obtain⟨d,k⟩:=r;split at e
   .rename_i b A;rw[hg] at e;cases e;dsimp only at A;subst A;obtain⟨v,T,N⟩:=m.get i _ _ q;have C:=N.den rfl;rw[Den] at C;subst C;refine⟨_,T,S,G,_,m,w,λy R B r1=>⟨a,b,rfl,r1.rd.int,?_⟩⟩;exact p S _ R ((m.mono B).set (by rw[Den])) (t.trans (zAP B))
   .cases e
  .cases e
 have no:(∀ a b,augI op a b=none)->PS X (.AugAssign (.Name x pos') op e pos) (gS X.K H0 (augD op i f)):=λhn=>(zE0 (X:=X)).imp λE σ H l=>by
  obtain⟨S,G,o,m,t,e,p⟩:=l;unfold augD at e;split at e
  .obtain ⟨r,w,e⟩:=bind_some e;split at e
   .rw [hn] at e;cases e
   .cases e
  .cases e
 cases op with
 | Add=>exact z (·+·) (λ_ _=>rfl) (opI0 λ_ _ _ _ _ _ _ q=>iadd_int q)
 | Sub=>exact z (· - ·) (λ_ _=>rfl) (opI0 λ_ _ _ _ _ _ _ q=>isub_int q)
 | _=>exact no λ_ _=>rfl
noncomputable def zDT:List D->Option (List Int)
 | []=>some []
 | .int i::ds=>(zDT ds).map λns=>i::ns
 | _=>none
theorem zHY {K:W.Frag}:∀ {ds:List D} {vs:List V} {ns:List Int},zDT ds=some ns->DenL K H ds vs->vs=ns.map V.int
 | [],vs,ns,e,h=>by
  rw[DenL] at h;subst h;cases e
  rfl
 | .int i::ds,vs,ns,e,h=>by
  rw[DenL] at h;obtain⟨v,ws,rfl,h1,h2⟩:=h;rw[Den] at h1;subst h1;rw[zDT] at e;cases e2:zDT ds with
  | none=>rw[e2] at e;cases e
  | some ms =>
   rw[e2] at e;cases e;rw[zHY e2 h2]
   rfl
theorem zCw:∀ {ns:List Int} {its:List Value},Vals (ns.map V.int) its->∃ ps:List (Int×Tok),its=ps.map (λp=>Value.int p.1 p.2)/\ps.map (·.1)=ns
 | [],[],_=>⟨[],rfl,rfl⟩
 | n::ns,_::_,.cons r t=>by
  obtain⟨ps,rfl,e2⟩:=zCw t;obtain⟨tk,rfl⟩:=r;exact⟨(n,tk)::ps,rfl,by rw[map_cons,e2]⟩
end
section
variable {X:Cx}
theorem RV.str {K:W.Frag}(x:Str):RV K H H' S (.str x,.cl) (.str x):=rfl
inductive T1 where
 | str | int | all | len
 deriving DecidableEq
noncomputable def T1.nm:T1->Str
 | .str => "str"
 | .int => "int"
 | .all => "all"
 | .len => "len"
inductive T2 where
 | add | inn | ix | drp | sw | spl | join | zf | fs (x:Str)
end
section
variable {X:Cx}
noncomputable def anyS (sub:Str->Str->Option Bool)(c:Str):List Str->Option Bool
 | []=>some false
 | y::ys=>match sub y c with
  | some true=>some true
  | some false=>anyS sub c ys
  | none=>none
noncomputable def isaF (sub:Str->Str->Option Bool)(ys:List Str):D->Option R
 | .exc c=>(anyS sub c ys).bind λb=>some (.bl b,.cl)
 | _=>none
inductive ClsT (X:Cx) (sub:Str->Str->Option Bool):List Str->List Expr->List V->List Value->Prop
 | nil:ClsT X sub [] [] [] []
 | cons {y:Str} {ys:List Str} {p:Pos} {es:List Expr} {v:V} {vs:List V} {u:Value} {us:List Value}:(∀ u',RelV v u'->u'=u)->PE X (.Name y p) (tC v)->(∀ c b,sub y c=some b->∀ C,zAp X.K c C->XCls X.K C/\W.kitOne X.K (.ref C) u=some b) ->
   ClsT X sub ys es vs us->ClsT X sub (y::ys) (.Name y p::es) (v::vs) (u::us)
theorem ClsT.pa (h:ClsT X sub ys es vs us):PA X es (λ_ H Q=>Q vs H):=by
 induction h with
 | nil=>exact zAs
 | cons h1 h2 h3 h4 ih=>exact zAR h2 ih rfl
theorem ClsT.us {vs:List V}{us ws:List Value}(h:ClsT X sub ys es vs us)(r:Vals vs ws):ws=us:=by
 induction h generalizing ws with
 | nil=>cases r;rfl
 | cons a d e c b =>
  cases r with
  | cons r1 r2=>rw[a _ r1,b r2]
theorem ClsT.any {vs:List V}{us:List Value}(h:ClsT X sub ys es vs us){c:Str}{C:Addr}(q:zAp X.K c C):∀ {b:Bool},anyS sub c ys=some b->W.kitAny X.K (.ref C) us=some b:=by
 induction h with
 | nil=>intro b e;exact e
 | cons i j d g f =>
  intro b e;unfold anyS at e;unfold W.kitAny;split at e
  .rename_i a;rw[(d c true a C q).2];omega
  .rename_i a;simpa [(d c false a C q).2] using f e
  .cases e
theorem ClsT.len {es:List Expr}{vs:List V}{us:List Value}(h:ClsT X sub ys es vs us):vs.length=ys.length:=by
 induction h with
 | nil=>rfl
 | cons e b c d a=>rw[x9,x9,a]
theorem zRp {x1}(D:Gl X "isinstance")(E:X.mg "isinstance"=none)(h:ClsT X sub ys es vs us)(Y:ys.length<=100)(g:ys≠[])(K:GE X e f)
  (u:starEach [e,.Tuple es x1 tp] X.env=(false,eval e X.env)::starEach [.Tuple es x1 tp] X.env):GE X (.Call (.Name "isinstance" p) [e,.Tuple es x1 tp] [] pos) (one f (isaF sub ys)):=by
 have T:zCi X (.builtin "isinstance") (λxs H Q=>∃ v c b q,xs=[v,.ref q]/\H q=some (.tup vs)/\Den X.K H (.exc c) v/\anyS sub c ys=some b/\Q (.bl b) H):=by
  intro i s σ H xs ws Q I r y;obtain⟨v,c,b,q,rfl,d,m,e,k⟩:=y;obtain⟨u',w',rfl,r1,r2⟩:=zHv r;cases r2;rw[Den] at m;obtain⟨a,o,u2,C,rfl,B,O,h3,l⟩:=m;cases r1;obtain⟨_,a0,J,⟨w,dd,j,sl⟩,t1,t2,n,t3⟩:=I.hok q _ d;simp only at t2 t3;subst t2 t3;have F:=h.us J;subst F;cases h with
  | nil=>exact absurd rfl g
  | @cons y0 ys0 p0 es0 v0 vs0 u0 us0 g1 g2 g3 g4 =>
   have L:XCls X.K C:=by
    cases q0:sub y0 c with
    | some b0=>exact(g3 c b0 q0 C l).1
    | none=>unfold anyS at e;rw[q0] at e;cases e
   exact W.kia_tup (zHU L) I.kIn ⟨o,(I.hok a _ B).1,O⟩ t1 ((ClsT.cons (p:=p0) g1 g2 g3 g4).any l e) (λz=>nomatch z) λtk=>⟨.bl b,H,I.tok tk,rfl,k⟩
 refine(zC0 T D E boot_isinstance (zAR K (zAR (zI6 h.pa) zAs rfl) u) (by decide) (by decide) u rfl).imp fun σ H Q zz83=>?_
 obtain⟨S,G,z,U,e,c⟩:=zz83;obtain⟨x,A,e⟩:=bind_some e;unfold isaF at e;split at e
 .rename_i t R;obtain⟨b,N,e⟩:=bind_some e;cases e;refine⟨S,G,x,U,A,λvx Z V r1=>⟨by rw[h.len];exact le_trans Y (by decide),λq d=>⟨vx,t,b,q,rfl,zAJ,?_,N,c _ _ (V.trans (zAU d _)) (.bl _)⟩⟩⟩;exact(R▸r1.rd.whole:Den X.K Z (.exc t) vx).mono (zAU d _)
 .cases e
def rRep (K:W.Frag):R2:=λx y H Q=>∃ l xs i,x=.ref l/\y=.int i/\SqL K H l xs/\0<=i/\i<=10000/\xs.length*i.toNat<=10000/\∀ p,H p=none->Q (.ref p) (upd H p (.lst (List.replicate i.toNat xs).flatten))
theorem zG7 (h:Vals vs us):∀ n:Nat,Vals (List.replicate n vs).flatten (List.replicate n us).flatten
 | 0=>.nil
 | n+1=>by rw[replicate_succ,flatten_cons,replicate_succ,flatten_cons];exact h.append (zG7 h n)
theorem zKj {K:W.Frag}(h:DenL K H ds vs):∀ n:Nat,DenL K H (List.replicate n ds).flatten (List.replicate n vs).flatten
 | 0=>.nil
 | n+1=>by rw[replicate_succ,flatten_cons,replicate_succ,flatten_cons];exact h.append (zKj h n)
theorem zGm {O:Type}(xs:List O):∀ n:Nat,(List.replicate n xs).flatten.length=xs.length*n
 | 0=>by simp
 | n+1=>by rw[replicate_succ,flatten_cons,qj,zGm xs n,Nat.mul_succ];omega
theorem zQj:OpR X (binaryOp .Mult) (rRep X.K):=by
 intro g s σ H x y v u Q I m k h;obtain⟨l,w,i,rfl,rfl,j,z,r,c,q⟩:=h;cases m;obtain⟨t,rfl⟩:=k;obtain⟨a,d,⟨⟨o,e,f,sl⟩,n,e1,e2,e3,e4⟩,z1⟩:=I.list j;subst e2 e4;have b:a.toArray.size*i.toNat<=10000:=by rw[xX,<- d.length];exact c
 refine wpAny_binaryOp_repeat_ref (T := "list") (U := "int") (by decide) ⟨_,e1,rfl⟩ (λs'=>typeIs_int s' i t) noFill_list_mul F.fills_int_mul F.slot_int_rmul repeat_list F.slot_int_index.lookup ?_;refine call_meets F.slot_int_rmul (typeIs_int s i t) F.entry_int_rmul (F.args_int_rmul_2 _ _) (lm_int_rmul_list_any i t l _ n e sl) ⟨e1,rfl,⟨_,e1,rfl⟩,?_⟩;refine call_meets F.slot_list_mul ⟨_,e1,rfl⟩ F.entry_list_mul (F.args_list_mul_2 _ _) (lm_list_mul_any l _ n e sl i t (by simp[Builtin.List.listFitsIndex];omega) (by omega) (by simp[Builtin.List.listTooLong,sizeLine];rw[xX] at b;omega)) ⟨e1,?_⟩;rw[listMul_foldl_if];exact⟨.ref _,_,I.lnew (zG7 d i.toNat) (by rw[zGm];exact zCy c),rfl,q _ I.fresh⟩
end
end DL
end
section
namespace L2
open PySem Spec PyProof.Rows
section
variable {f:Type}[DecidableEq f]
noncomputable def valV (kvs:List (f×V))(k:f):Option V:=(kvs.find? λkv=>decide (kv.1=k)).map (·.2)
noncomputable def putK (kvs:List (f×V))(k:f)(v:V):List (f×V) :=
 if (kvs.any λkv=>decide (kv.1=k))=true then kvs.map (λkv=>if kv.1=k then (kv.1,v) else kv) else kvs++[(k,v)]
theorem zDd {r:List (f×V)}{k:f}(e:p.1=k):valV (p::r) k=some p.2:=by simp[valV,e]
theorem zDe {r:List (f×V)}{k:f}(e:¬ p.1=k):valV (p::r) k=valV r k:=by simp[valV,e]
theorem zEs (k:f):∀ kvs:List (f×V),(kvs.any λkv=>decide (kv.1=k))=(valV kvs k).isSome
 | []=>rfl
 | p::r=>by
  rw[any_cons];by_cases e:p.1=k
  .simp only [zDd e,decide_eq_true e,Bool.true_or,Option.isSome_some]
  .rw [zDe e,decide_eq_false e,Bool.false_or];exact zEs k r
theorem zD0 (kvs:List (f×V))(k:f)(v:V):(putK kvs k v).length<=kvs.length+1:=by
 unfold putK;grind
end
theorem RelO.isSome_eq (r:RelO o u):o.isSome=u.isSome:=by
 cases o with
 | none=>cases u with
  | none=>rfl
  | some _=>exact r.elim
 | some _=>cases u with
  | none=>exact r.elim
  | some _=>rfl
theorem zJl (r:RelV (kV k) u):(zBP P w).is k u=true:=by
 cases k with
 | inl i=>obtain⟨t,e⟩:=r;subst e;exact zGk P w i t
 | inr x=>obtain⟨t,e⟩:=r;subst e;exact zGj P w x t
theorem zF5 :∀ {ks:List Key} {us:List Value},Vals (ks.map kV) us->ItemsAre (zBP P w) ks us
 | [],_,r=>by rw[map_nil] at r;cases r;exact .nil
 | k::ks,_,r=>by
  rw[map_cons] at r;cases r with
  | cons h t=>exact .cons (zJl h) (zF5 t)
abbrev KT (H:Hp):List (List Key×V)->List (List Key×Addr×Value)->Prop:=Paired λp q=>p.1=q.1/\H q.2.1=some (.tup (p.1.map kV))/\RelV p.2 q.2.2
theorem KT.val (r:KT H kvs xs)(k:List Key):RelO (valV kvs k) ((atKey xs k).map (·.2)):=by
 induction r with
 | nil=>exact True.intro
 | @cons p q ps qs h t ih =>
  obtain⟨c,_,d⟩:=h;by_cases e:p.1=k
  .have a:=c.symm.trans e;have b:atKey (q::qs) k=some q.2:=by simp[atKey,a]
   rw[zDd e,b];exact d
  .have a:¬ q.1=k:=λz=>e (c.trans z)
   have b:atKey (q::qs) k=atKey qs k:=by simp[atKey,a]
   rw[zDe e,b];exact ih
theorem KT.repl (r:KT H kvs xs)(k:List Key)(a:RelV y u) :
  KT H (kvs.map λkv=>if kv.1=k then (kv.1,y) else kv) (xs.map (putAt k u)):=by
 induction r with
 | nil=>exact .nil
 | @cons p q ps qs h t ih =>
  refine .cons ?_ ih;unfold putAt;by_cases e:p.1=k
  .simp_all
  .simp_all
theorem KT.put (r:KT H kvs xs)(k:List Key)(c:H b=some (.tup (k.map kV)))(a:RelV y u) :
  KT H (putK kvs k y) (storedH xs k b u):=by
 have e:(kvs.any λkv=>decide (kv.1=k))=(atKey xs k).isSome:=by
  rw[zEs,(r.val k).isSome_eq,Option.isSome_map]
 unfold putK storedH;rw[e];by_cases q:(atKey xs k).isSome=true
 .rw [if_pos q,if_pos q];exact r.repl k a
 .rw [if_neg q,if_neg q];exact Paired.snoc r ⟨rfl,c,a⟩
theorem KT.keeps (r:KT H kvs xs)(a:∀ b ys,H b=some (.tup ys)->H' b=some (.tup ys)):KT H' kvs xs :=
 Paired.mapP r λ_ _ z=>⟨z.1,a _ _ z.2.1,z.2.2⟩
section
variable {P:Program}{w:World}{H:Hp}{h:Heap}{a:Addr}
theorem zQQ (ok:HOk P w H h)(e:Rd H a u):zBV P w H h a u:=e.ok ok
theorem zHV (ok:HOk P w H h)(e:H a=some (.tup (ks.map kV))):(tupleKind (zBP P w)).is h ks a:=by
 obtain⟨_,b,r,o,c,f,n,d⟩:=ok a _ e;exact⟨o,b.toArray,n,c,f,d,by simpa using zF5 r⟩
theorem zMZ (ok:HOk P w H h)(e:Rd H a (.dT kvs)):kvs.length<=sizeLine/\(a==sysModules)=false /\
  ∃ xs,KT H kvs xs/\h.DictOfH (tupleKind (zBP P w)) a xs:=by
 obtain⟨z,y,xs,r,o,es,c,j,i,f,g,d⟩:=zQQ ok e;refine⟨z,y,xs,r,o,es,c,j,i,f,g,λx b=>?_,d⟩;have all:∀ {l:List _} {m:List _},KT H l m->∀ x∈m,(tupleKind (zBP P w)).is h x.1 x.2.1:=by
  intro l m q
  induction q with
  | nil=>intro x b;exact nomatch b
  | @cons p q ps qs hq t ih =>
   intro x b;rcases mem_cons.mp b with e | b
   .subst e;exact zHV ok (by simp_all)
   .exact ih x b
 exact all r x b
theorem zSF (ok:HOk P w H h)(e:H a=some (.dT kvs)):kvs.length<=sizeLine/\(a==sysModules)=false /\
  ∃ xs,KT H kvs xs/\h.DictOfH (tupleKind (zBP P w)) a xs:=zMZ ok (.inl e)
end
section
variable {X:Cx}{pins:List (Addr×Obj)}{σ:St}{H:Hp}{s:Shared}{a:Addr}{y v:V}{u r:Value}{o:Option V}{A:Around}{E:Value->Shared->Prop}
theorem Inv.big (I:Inv X pins σ H s):sysModules < s.heap.objs.size:=Nat.lt_trans (by decide) (I.mod.glob.keeps I.bk).lt
theorem zG0 (I:Inv X pins σ H s)(mu:Mut (H a))(e:Heap.SameBut a s.heap h')(d:∃ q,h'.get? a=some q)(new:zBV X.prog X.w (upd H a ob) h' a ob) :
  Inv X pins σ (upd H a ob) { s with heap:=h',toks:=t' } :=
 I.write mu (.inl rfl) (λb q c z=>(e.2 b c).trans z) d new
end
theorem zMa (h:Heap)(a:sysModules < h.objs.size):zBV P w H (h.push { cls:=.type "dict",data:=.dict #[] }) h.objs.size (.dT []) :=
 ⟨zero_le _,beq_eq_false_iff_ne.mpr (Ne.symm (ne_of_lt a)),[],.nil,_,#[],0,get?_push_size _ rfl,⟨rfl,rfl,rfl⟩,rfl,rfl,List.nodup_nil⟩
def zQA:TE:=λ_ H Q=>∀ p,H p=none->Q (.ref p) (upd H p (.dT []))
section
variable {X:Cx}{pos:Pos}
theorem zLX:PE X (.Dict [] [] pos) zQA:=λpins s σ H Q I h =>
 wpAny_Dict_empty ⟨.ref s.heap.objs.size,_,I.laid (λ_ _ q=>get?_push_of_some _ q) (le_refl _) (zMa s.heap I.big),rfl,h _ (I.hok.fresh (le_refl _))⟩
end
end L2
end
section
namespace DL
open PySem Spec PyProof.Rows L2
variable {X:Cx}
noncomputable def putP (ks:List (Int×Int))(q:Int×Int):List (Int×Int):=if q∈ks then ks else ks++[q]
end DL
end
section
namespace L2
open PySem Spec PyProof.Rows
section
variable {f:Type}[DecidableEq f]
noncomputable def zGD (kvs:List (f×V))(k:f):List (f×V):=kvs.filter λkv=>decide (kv.1≠k)
theorem KV.val (r:KV kvs vs)(k:f):RelO (valV kvs k) (valueAt vs k):=by
 induction r with
 | nil=>exact True.intro
 | @cons p q ps qs h t ih =>
  obtain⟨c,d⟩:=h;by_cases e:p.1=k
  .have a:=c.symm.trans e;have b:valueAt (q::qs) k=some q.2:=by simp[valueAt,a]
   rw[zDd e,b];exact d
  .have a:¬ q.1=k:=λz=>e (c.trans z)
   have b:valueAt (q::qs) k=valueAt qs k:=by simp[valueAt,a]
   rw[zDe e,b];exact ih
theorem KV.any (r:KV kvs vs)(k:f):(kvs.any λkv=>decide (kv.1=k))=vs.any λkv=>decide (kv.1=k):=by
 induction r with
 | nil=>rfl
 | cons h t a=>rw[any_cons,any_cons,a,h.1]
theorem KV.repl (r:KV kvs vs)(k:f)(a:RelV y u) :
  KV (kvs.map λkv=>if kv.1=k then (kv.1,y) else kv) (vs.map λkv=>if kv.1=k then (kv.1,u) else kv):=by
 induction r with
 | nil=>exact .nil
 | @cons p q ps qs h t ih =>
  refine .cons ?_ ih;grind
theorem KV.put (r:KV kvs vs)(k:f)(a:RelV y u):KV (putK kvs k y) (stored vs k u):=by
 unfold putK stored;rw[r.any k];by_cases e:(vs.any λkv=>decide (kv.1=k))=true
 .rw [if_pos e,if_pos e];exact r.repl k a
 .rw [if_neg e,if_neg e];exact Paired.snoc r ⟨rfl,a⟩
theorem KV.drop (r:KV kvs vs)(k:f):KV (zGD kvs k) (without vs k):=by
 unfold zGD without
 induction r with
 | nil=>exact .nil
 | @cons p q ps qs h t ih =>
  obtain⟨a,b⟩:=h;rw[filter_cons,filter_cons];by_cases e:p.1=k
  .grind
  .have c:=λz=>e (a.trans z)
   rw[if_pos (by grind),if_pos (by grind)];exact .cons ⟨a,b⟩ ih
theorem KV.length {kvs:List (f×V)}{vs:List (f×Value)}(r:KV kvs vs):kvs.length=vs.length:=Paired.length r
end
section
variable {P:Program}{w:World}{H:Hp}{h:Heap}{a:Addr}
theorem zMg (ok:HOk P w H h)(e:Rd H a (.dK kvs)):kvs.length<=sizeLine/\(a==sysModules)=false/\∃ vs,KV kvs vs/\h.DictOf (zBP P w) a vs :=
 show zBV P w H h a _ from zQQ ok e
theorem zSI (ok:HOk P w H h)(e:H a=some (.dK kvs)):kvs.length<=sizeLine/\(a==sysModules)=false/\∃ vs,KV kvs vs/\h.DictOf (zBP P w) a vs:=zMg ok (.inl e)
theorem zNe (z:kvs.length<=sizeLine)(c:(a==sysModules)=false)(b:KV kvs vs)(dd:h'.DictOf (zBP P w) a vs) :
  zBV P w H' h' a (.dK kvs):=⟨z,c,vs,b,dd⟩
end
def DGet (H:Hp)(a:Addr)(y:V)(r:Option V):Prop :=
 (∃ kvs k,Rd H a (.dK kvs)/\y=kV k/\r=valV kvs k)\/∃ kvs k b,Rd H a (.dT kvs)/\y=.ref b/\H b=some (.tup (k.map kV))/\r=valV kvs k
def DPut (H:Hp)(a:Addr)(y v:V)(H':Hp):Prop :=
 (∃ kvs k,H a=some (.dK kvs)/\y=kV k/\kvs.length < sizeLine/\H'=upd H a (.dK (putK kvs k v))) \/
 ∃ kvs k b,H a=some (.dT kvs)/\y=.ref b/\H b=some (.tup (k.map kV))/\kvs.length < sizeLine/\H'=upd H a (.dT (putK kvs k v))
theorem DGet.k {kvs:List (Key×V)}{k:Key}(e:H a=some (.dK kvs)):DGet H a (kV k) (valV kvs k):=.inl ⟨kvs,k,.inl e,rfl,rfl⟩
theorem DPut.k {kvs:List (Key×V)}{k:Key}{v:V}(e:H a=some (.dK kvs))(hl:kvs.length < sizeLine):DPut H a (kV k) v (upd H a (.dK (putK kvs k v))):=.inl ⟨kvs,k,e,rfl,hl,rfl⟩
theorem DPut.t {kvs:List (List Key×V)}{k:List Key}{v:V}(e:H a=some (.dT kvs))(c:H b=some (.tup (k.map kV)))(d:kvs.length < sizeLine) :
  DPut H a (.ref b) v (upd H a (.dT (putK kvs k v))):=.inr ⟨kvs,k,b,e,rfl,c,d,rfl⟩
section
variable {X:Cx}{pins:List (Addr×Obj)}{σ:St}{H:Hp}{s:Shared}{a:Addr}{y v:V}{u r:Value}{o:Option V}{A:Around}{E:Value->Shared->Prop}
theorem zKn (r:A.units+1 < cLine)(I:Inv X pins σ H s)(g:DGet H a y (some v))(q:RelV y u)(h:∀ w' s',Inv X pins σ H s'->RelV v w'->Q w' s') :
  wpAny (model X.prog X.w) A (getItem (.ref a) u) Q E s:=by
 rcases g with ⟨n,k,e,m,l⟩ | ⟨n,k,b,e,m,eb,l⟩
 .subst m;obtain⟨z,x,t,c,f⟩:=zMg I.hok e;obtain⟨w',i,d⟩:=RelO.some_of (v:=v) (o:=valueAt t k) (by rw[l];exact c.val k);exact wpAny_getItem_of (zJl q) f.mapOf i (h w' _ (I.tok _) d)
 .subst m;cases q;obtain⟨z,x,B,c,f⟩:=zMZ I.hok e;obtain⟨w',i,d⟩:=RelO.some_of (v:=v) (by rw[l];exact c.val k);obtain⟨p,w,j⟩:=yj.mp i;refine wpAny_getItem_heap (tupleKind_room_in1 r) (zHV I.hok eb) f w ?_;rw[j];exact h w' _ (I.tok _) d
theorem zPo (n:A.units+1 < cLine)(I:Inv X pins σ H s)(g:DGet H a y o)(m:RelV y u)(h:∀ s',Inv X pins σ H s'->Q (.bool (!o.isSome)) s') :
  wpAny (model X.prog X.w) A (compareOp .NotIn u (.ref a)) Q E s:=by
 rcases g with ⟨i,k,e,f,l⟩ | ⟨i,k,b,e,f,eb,l⟩
 .subst f;obtain⟨z,d,p,c,j⟩:=zMg I.hok e;refine wpAny_notIn_of (zJl m) d j.mapOf ?_;rw[<- (c.val k).isSome_eq,<- l];exact h _ (I.tok _)
 .subst f;cases (show u=Value.ref b from m);obtain⟨z,d,r,c,j⟩:=zMZ I.hok e;refine wpAny_notIn_heap (tupleKind_room_in1 n) (zHV I.hok eb) d j ?_;have q:=(c.val k).isSome_eq;rw[Option.isSome_map] at q;rw[<- q,<- l];exact h _ (I.tok _)
theorem zKm (N:A.units+1 < cLine)(I:Inv X pins σ H s)(g:DPut H a y v H')(x:RelV y u)(w:RelV v r)(h:∀ s',Inv X pins σ H' s'->Q () s') :
  wpAny (model X.prog X.w) A (setItem (.ref a) u r) Q E s:=by
 rcases g with ⟨d,k,e,j,l,o⟩ | ⟨d,k,b,e,j,eb,l,o⟩
 .subst j o;obtain⟨z,t,C,c,n⟩:=zSI I.hok e;have p:C.length<=sizeLine:=by rw[<- c.length];exact z
  have F:(putK d k v).length<=sizeLine:=by have:=zD0 d k v;omega
  refine wpAny_setItem_pairs (hsz:=p) (zJl x) n λh' f m=>h _ ?_
  have D:∃ q,h'.get? a=some q:=let ⟨q,_,_,i,_⟩:=f;⟨q,i⟩
  exact zG0 I (by rw[e];exact True.intro) m D (zNe F t (c.put k w) f)
 .subst j o;cases (show u=Value.ref b from x);obtain⟨z,t,O,c,n⟩:=zSF I.hok e;have p:O.length<=sizeLine:=by rw[<- Paired.length c];exact z
  refine wpAny_setItem_heap (hsz:=p) (tupleKind_room_in1 N) (zHV I.hok eb) n λh' f m=>h _ ?_
  obtain⟨q,es,G,i,L,J,M,_,K⟩:=f;refine zG0 I (by rw[e];exact True.intro) m ⟨q,i⟩ ⟨(by have:=zD0 d k v;omega),t,_,(c.put k eb w).keeps λc R B=>?_,q,es,G,i,L,J,M,K⟩;rw[zAI (zSr B e (λz=>nomatch z))];exact B
end
section
variable {X:Cx}{pins:List (Addr×Obj)}{σ:St}{H:Hp}{s:Shared}{a:Addr}{kvs:List (Key×V)}{k:Key}{u:Value}{A:Around}{E:Value->Shared->Prop}
theorem zTD (I:Inv X pins σ H s)(e:H a=some (.dK kvs))(d:RelV (kV k) u)(l:valV kvs k=some v)(m:more=[]\/∃ x,more=[x])
  (h:∀ w' s',Inv X pins σ (upd H a (.dK (zGD kvs k))) s'->RelV v w'->Q w' s'):wpAny (model X.prog X.w) A (call (.builtin "dict.pop") (.ref a::u::more)) Q E s:=by
 obtain⟨z,n,g,b,j⟩:=zSI I.hok e;obtain⟨w',p,f⟩:=RelO.some_of (v:=v) (o:=valueAt g k) (by rw[<- l];exact b.val k);have r:(keyPart u).isSome=true:=by
  cases k with
  | inl i=>obtain⟨t,q⟩:=d;subst q;rfl
  | inr x=>obtain⟨t,q⟩:=(show ∃ t,u=Value.str x t from d);subst q;rfl
 have y:argsOk "dict.pop" ⟨.ref a::u::more,[]⟩:=by
  rcases m with q | ⟨x,q⟩
  .subst q;exact PySem.F.args_dict_pop_2 _ _
  .subst q;exact PySem.F.args_dict_pop_3 _ _ _
 refine call_meetsIn PySem.F.slot_dict_pop j.typeIs PySem.F.entry_dict_pop y (meets_dict_pop_there (zBP X.prog X.w) a (zJl d) more m r)
  ⟨g,w',j,by rw[<- b.length];exact z,p,λh' c w=>h w' _ ?_ f⟩
 exact zG0 I (by rw[e];exact True.intro) w (let ⟨q,_,_,hq,_⟩:=c;⟨q,hq⟩) (zNe (le_trans ((List.length_filter_le _ _)) z) n (b.drop k) c)
end
def NoSl (i:Expr):Prop:=∀ ov iv,subscripted i false ov iv=operate [ov,iv] (getItem ov iv)
theorem zNz {g:String}
  (d:typeLookup (.type T) "__getitem__"=pure (some (.builtin g))) (f:NoSl slice)
  (h:wpAny (model prog w) A (eval value env) (λo O4=>wpAny (model prog w) A (eval slice env) (λi O8=>O8.TypeIs o T/\wpAny (model prog w) A (getItem o i) Q E O8) E O4) E s) :
  wpAny (model prog w) A (eval (.Subscript value slice pos) env) Q E s:=by
 refine Subscript_ (wpAny_mono h (λo O4 e=>wpAny_mono e (λi O8 b=>?_) λ_ _ x=>x) λ_ _ x=>x);obtain⟨k,b⟩:=b;refine qQ (qQ (wpAny_specialOf k d ?_));have a:wpAny (model prog w) A (subscripted slice false o i) (λr c=>wpAny (model prog w) A (letTemporaryGo value o r>>=λ_=>pure r) Q E c) E O8:=by
  rw[f o i];exact wpAny_operating (wpAny_mono b (λr c j=>qQ (wpAny_letTemporaryGo (xj j))) λ_ _ x=>x)
 first
  | exact xj (qQ a)
  | exact qQ _
  | exact qQ a
theorem zGy {σ:St}(I:Inv X pins σ H s)(g:DGet H a y o):s.TypeIs (.ref a) "dict":=by
 rcases g with ⟨d,k,e,_,_⟩ | ⟨d,k,b,e,_,_,_⟩
 .obtain ⟨_,_,h,_,c⟩:=zMg I.hok e;exact c.typeIs
 .obtain ⟨_,_,f,_,c⟩:=zMZ I.hok e;exact c.typeIs
def zSe (td ty:TE):TE:=fun σ H Q=>td σ H λx H1=>ty σ H1 λy H2=>∃ a v,x=.ref a/\DGet H2 a y (some v)/\Q v H2
def zSg (td ty tv:TE):TS:=λD σ H=>tv σ H λv H1=>td σ H1 λx H2=>ty σ H2 λy H3=>∃ a H4,x=.ref a/\DPut H3 a y v H4/\D.nx σ H4
section
variable {X:Cx}{o i e value:Expr}{pos pos' tpos:Pos}{td ty tv:TE}
theorem zOJ (m:X.A.units+1 < cLine)(z:PE X o td)(hi:PE X i ty)(q:NoSl i):PE X (.Subscript o i pos) (zSe td ty):=by
 intro b s σ H Q I h;refine zNz PySem.F.slot_dict_getitem.lookup q (thn (z b s σ H _ I h) λu k ⟨x,j,n,t,p⟩=>thn (hi b k σ j _ n p) λiv B c=>?_);obtain⟨y,f,e,r,a,v,l,g,w⟩:=c;subst l;obtain rfl:=t;exact⟨zGy e g,zKn m e g r λw' C A d=>⟨v,f,A,d,w⟩⟩
theorem zOE (l:X.A.units+1 < cLine)(j:PE X o td)(e:PE X i ty)(r:PE X value tv)(G:swapsWith value (some (.Subscript o i pos')) pos.line X.env=pure false) :
  PS X (.Assign [.Subscript o i pos'] value pos) (zSg td ty tv):=by
 intro b s σ H D I h;refine wpAny_Assign_Subscript (thn (r b s σ H _ I h) λr t ⟨v,f,d,w,z⟩=>thn (j b t σ f _ d z) λu F ⟨x,n,m,p,A⟩=>thn (e b F σ n _ m A) λiv K c=>?_) G;obtain⟨y,J,u,k,a,B,C,g,E⟩:=c;subst C;obtain rfl:=p;exact zKm l u g k w λs4 q=>⟨σ,B,q,E⟩
end
theorem zMh (h:Heap)(a:sysModules < h.objs.size):zBV P w H (h.push { cls:=.type "dict",data:=.dict #[] }) h.objs.size (.dK []) :=
 ⟨zero_le _,beq_eq_false_iff_ne.mpr (Ne.symm (ne_of_lt a)),[],.nil,Heap.DictOf.new h⟩
def zQB:TE:=λ_ H Q=>∀ p,H p=none->Q (.ref p) (upd H p (.dK []))
section
variable {X:Cx}{pos:Pos}
theorem zLY:PE X (.Dict [] [] pos) zQB:=λpins s σ H Q I h =>
 wpAny_Dict_empty ⟨.ref s.heap.objs.size,_,I.laid (λ_ _ q=>get?_push_of_some _ q) (le_refl _) (zMh s.heap I.big),rfl,h _ (I.hok.fresh (le_refl _))⟩
end
end L2
end
section
namespace DL
open PySem Spec PyProof.Rows L2
noncomputable def posI (k:Int):List Int->Option Nat
 | []=>none
 | x::r=>if x=k then some 0 else (posI k r).map (·+1)
theorem zEr :∀ {is:List Int} {its:List Value},Vals (is.map V.int) its->W.kf_ints its=true/\W.kf_at k its=posI k is
 | [],its,h=>by cases h;exact⟨rfl,rfl⟩
 | i::is,its,h=>by
  cases h with
  | cons r t =>
   obtain⟨u,rfl⟩:=r;obtain⟨h1,h2⟩:=zEr (k:=k) t;refine⟨h1,?_⟩;unfold W.kf_at posI;rw[h2];by_cases q:i=k
   .have:isInt k (.int i u)=true:=by unfold isInt;simp[q]
    rw[this,if_pos q];rfl
   .have:isInt k (.int i u)=false:=by unfold isInt;simp[q]
    rw[this,if_neg q];cases posI k is<;>rfl
theorem Vals.erase:∀ {xs:List V} {us:List Value} (j:Nat),Vals xs us->Vals (xs.eraseIdx j) (us.eraseIdx j)
 | [],_,_,h=>by cases h;exact .nil
 | _::_,_,0,h=>by cases h with | cons _ t=>exact t
 | _::_,_,j+1,h=>by cases h with | cons r t=>exact .cons r (Vals.erase j t)
section
variable {X:Cx}
def zIx:V->List V->Hp->VK->Prop:=λx vs H Q=>∃ l is k j,x=.ref l/\vs=[.int k]/\H l=some (.lst (is.map V.int))/\posI k is=some j/\Q .non (upd H l (.lst ((is.map V.int).eraseIdx j)))
theorem zJS:MtM X "list.remove" zIx:=by
 intro g s σ H x E v us Q I A w h;obtain⟨l,G,k,j,rfl,rfl,m,p,q⟩:=h;cases A;obtain⟨u,rfl,B⟩:=w.one;obtain⟨t,rfl⟩:=B;obtain⟨z,f,n,r,J,e⟩:=I.lstM m;obtain⟨C,o⟩:=zEr r;rw[p] at o;obtain⟨a,b,c⟩:=W.kf_at_spec o;refine call_meets F.slot_list_remove ⟨_,e,rfl⟩ F.entry_list_remove (F.args_list_remove_2 _ _)
  (MeetsSeq.list_remove l f.toArray n (.int k t) (isInt k) (λy D=>W.kf_eq C y (by simpa using D)) j (by simpa using a) (by simpa using b) (λi K d=>by simpa using c i _ d) (by grind)) ⟨e,?_⟩
 refine⟨.non,_,I.lset m e (by simp) (Vals.erase j r) ?_,rfl,q⟩;exact le_trans (zF0 _ _) z
def zQR:V->List V->Hp->VK->Prop:=λx vs H Q=>∃ l is k j,x=.ref l/\vs=[.int k]/\H l=some (.lst (is.map V.int))/\posI k is=some j/\Q (.int j) H
theorem zLi:MtM X "list.index" zQR:=by
 intro m s σ H x J v us Q I w C h;obtain⟨l,E,k,j,rfl,rfl,A,B,q⟩:=h;cases w;obtain⟨u,rfl,p⟩:=C.one;obtain⟨t,rfl⟩:=p;obtain⟨z,d,n,r,K,e⟩:=I.lstM A;obtain⟨o,g⟩:=zEr r;rw[B] at g;obtain⟨a,b,c⟩:=W.kf_at_spec g;rw[sizeLine_eq] at z;refine call_meets F.slot_list_index ⟨_,e,rfl⟩ F.entry_list_index (F.args_list_index_2 _ _)
  (MeetsSeq.list_index l d.toArray n (.int k t) (isInt k) (λy D=>W.kf_eq o y (by simpa using D)) j (by simpa using a) (by omega) (by simpa using b) (λi G f=>by simpa using c i _ f)) ⟨e,?_⟩
 exact⟨.int j,H,I.tok _,⟨_,rfl⟩,q⟩
def zSk:V->List V->Hp->VK->Prop:=λx vs H Q=>∃ a kvs k v,x=.ref a/\vs=[kV k]/\H a=some (.dK kvs)/\valV kvs k=some v/\Q v (upd H a (.dK (zGD kvs k)))
theorem zOd:MtM X "dict.pop" zSk:=by
 intro b s σ H x n v us Q I g j h;obtain⟨a,e,k,w,rfl,rfl,f,d,q⟩:=h;cases g;obtain⟨u,rfl,i⟩:=j.one;exact zTD I f i d (.inl rfl) λw' m l c=>⟨w,_,l,c,q⟩
end
theorem zD8 (e:h.get? b=some o):zBV P w H h b (.frz o anyU):=⟨e,True.intro,⟨o,e⟩,λ_ _ _ _=>True.intro⟩
theorem zN7 (hS:∀ b∈S,∃ o,H b=some (.frz o anyU))(nf:∀ b∈S,b∉fs)(hok:HOk P w H h)(un:Un fs [] (hide H S) H2 h h')(hok2:HOk P w H2 h') :
  ∃ H':Hp,(∀ b∈S,H' b=H b)/\(∀ b,b∉S->H' b=H2 b)/\Same H2 H'/\(∀ b∈S,H2 b=none)/\Un fs [] H H' h h'/\HOk P w H' h':=by
 have there:∀ {b:Addr},b∈S->∃ o,H b=some (.frz o anyU)/\h'.get? b=some o/\H2 b=none:=λ{b} z=>by
  obtain⟨o,e⟩:=hS b z;obtain⟨e1,_⟩:=hok b _ e;exact⟨o,e,un.keep b o e1 (zCK z) (nf b z) (by simp),un.free b o e1 (zCK z) (by simp)⟩
 have nS:∀ {b:Addr} {u:HO},H2 b=some u->b∉S:=λ{b u} e z=>by
  obtain⟨_,_,_,q⟩:=there z;grind
 have nN:∀ {b:Addr},H b=none->b∉S:=λ{b} e z=>by
  obtain⟨_,q,_⟩:=there z;grind
 have hid:∀ {b:Addr},b∉S->hide H S b=H b:=λz=>zAQ z
 obtain⟨H',hin,hout⟩:∃ H':Hp,(∀ b∈S,H' b=H b)/\(∀ b,b∉S->H' b=H2 b):=⟨λb=>if b∈S then H b else H2 b,λb z=>if_pos z,λb z=>if_neg z⟩;have sm:Same H2 H':=λb u e=>by rw[hout b (nS e)];exact e
 refine⟨H',hin,hout,sm,λb z=>(there z).choose_spec.2.2,⟨λb o e n=>un.keep b o e (by rw[hid (nN n)];exact n),λb o e n=>un.slot b o e (by rw[hid (nN n)];exact n),λb o e n hx=>?_,un.there,λb xs e=>?_,λb o u e=>?_,λb q e=>?_⟩,λb u e=>?_⟩
 .rw [hout b (nN n)];exact un.free b o e (by rw[hid (nN n)];exact n) hx
 .have z:b∉S:=λz=>by obtain⟨_,q,_⟩:=there z;rw[q] at e;cases e
  rw[hout b z];exact un.tups b xs (by rw[hid z];exact e)
 .by_cases z:b∈S
  .rw [hin b z];exact e
  .rw [hout b z];exact un.frzs b o u (by rw[hid z];exact e)
 .have z:b∉S:=λz=>by obtain⟨_,q,_⟩:=there z;rw[q] at e;cases e
  rw[hout b z];exact un.tbls b q (by rw[hid z];exact e)
 .by_cases z:b∈S
  .obtain ⟨o,q,g,_⟩:=there z;rw[hin b z,q] at e;cases e;exact zD8 g
  .rw [hout b z] at e;exact(hok2 b u e).stay (λ_ _ _ q=>q) (λ_ q=>sm _ _ q) (λ_ _ q=>sm _ _ q) λ_ _ _ q _=>sm _ _ q
theorem zLv (hS:∀ b∈S,∃ o v,H b=some (.frz o anyU)/\o.data=.cell v)(hok:HOk P w H h):HOk P w (hide H S) h:=λb u e=>by
 obtain⟨nb,e1⟩:=zA5 e;have keep:∀ {c:Addr} {v:HO},H c=some v->(∀ o,v≠.frz o anyU)->hide H S c=some v:=λ{c v} q n=>by
  rw[zAQ λz=>?_]
  .exact q
  .obtain ⟨o,_,q2,_⟩:=hS c z;grind
 refine(hok b u e1).stay (λ_ _ _ q=>q) (λc q=>keep q λo z=>nomatch z) (λc xs q=>keep q λo z=>nomatch z) λc ob v q zz86=>?_
 rw[zAQ λz=>?_]
 .exact q
 .obtain ⟨o,cv,q2,d2⟩:=hS c z;rw[q] at q2;cases q2;grind
theorem zBf.get:∀ {H:Hp} {cl:List (Str×Addr)} {vs:List V},zBf H cl vs->∀ {i:Nat} {v:V},vs[i]?=some v->∃ p o u,cl[i]?=some p/\H p.2=some (.frz o anyU)/\o.data=.cell (some u)/\RelV v u
 | _,_,_,.nil,i,v,e=>by simp at e
 | H,_,_,.cons (a:=p) (b:=v0) ⟨o,u,h1,h2,h3⟩ t,i,v,e=>by
  cases i with
  | zero=>simp at e;subst e;exact⟨p,o,u,by simp,h1,h2,h3⟩
  | succ i =>
   obtain⟨p',o',u',e1,e2⟩:=zBf.get (H:=H) t (i:=i) (v:=v) (by simpa using e);exact⟨p',o',u',by simpa using e1,e2⟩
theorem zBf.mem (h:zBf H cl vs):∀ p∈cl,∃ o u,H p.2=some (.frz o anyU)/\o.data=.cell (some u):=by
 induction h with
 | nil=>intro p a;exact absurd a (by simp)
 | cons r t b =>
  intro p a;rcases mem_cons.mp a with rfl | a
  .obtain ⟨o,u,d,c,_⟩:=r;exact⟨o,u,d,c⟩
  .exact b p a
noncomputable def zSJ (P:Program)(w:World)(K:W.Frag)(mg:Str->Option Value)(base:Heap)(N:List Str)(L:LamI)(f c:Addr)(cl:List (Str×Addr))(A:Around)(outer:List Env)(s:Shared)(H:Hp):Cx where
 prog:=P
 w:=w
 K:=K
 mg:=mg
 base:=base
 A:=A.deeper (W.envX L.qual L.scope s.heap.objs.size f (.ref c) cl)
 N:=N
 s0:=s
 Y5:=H
 env:=W.envX L.qual L.scope s.heap.objs.size f (.ref c) cl
 outer:=outer
 stack:=W.envX L.qual L.scope s.heap.objs.size f (.ref c) cl::outer
 ex:=[]
 calm:=true
 fn:=λ_=>false
 pn:=[]
 xe:=λ_ _=>False
structure zGS (x:Str)(ys:List Str)(L:LamI):Prop where
 kind:L.scope.kind=.function
 co:L.scope.isCoroutine=false
 gen:L.scope.isGenerator=false
 nd:(x::ys).Nodup
 par:L.scope.names.lookup x=some .local
 fr:∀ y∈ys,L.scope.names.lookup y=some .free
 all:∀ y,L.scope.names.lookup y=some .free->y∈ys
 nocell:∀ y∈L.scope.names,y.2≠.cell
 bind:∀ cl pm c ctv u,bindArgs (W.kla_fn "<lambda>" L.qual L.params L.body L.scope cl pm c ctv) ⟨[u],[]⟩=pure [(x,u)]
theorem zFy {ys:List Str}:∀ {cl:List (Str×Addr)},cl.map (·.1)=ys->ys.Nodup->∀ {i:Nat} {p:Str×Addr},cl[i]?=some p->cl.lookup p.1=some p.2/\ys[i]?=some p.1:=λ{cl} h a {i p} e=>by
 refine⟨?_,by rw[<- h,getElem?_map,e];rfl⟩;subst h
 induction cl generalizing i with
 | nil=>simp at e
 | cons q cl c =>
  rw[map_cons,nodup_cons] at a;cases i with
  | zero=>simp at e;subst e;rw[lookup_cons,beq_self_eq_true]
  | succ i =>
   have b:cl[i]?=some p:=by simpa using e
   rw[lookup_cons,beq_eq_false_iff_ne.mpr λz=>a.1 (by rw[<- z];exact mem_map.mpr ⟨p,mem_of_getElem? b,rfl⟩)];exact c b a.2
theorem zOr {P:Program}{w:World}{K:W.Frag}{mg:Str->Option Value}{n:Heap}{x:Str}{ys:List Str}{L:LamI}{f c:Addr}{cl:List (Str×Addr)}{A:Around}{k:List Env}{s:Shared}{H:Hp}{u:Value}{v:V}{vs:List V}{I:Heap}
  (S:zGS x ys L) (hd:A.handled=none) (Y:A.depth+1+Builtin.pylongFrames < recursionLimit) (g:Env0 P w K mg n A k s H) (r:RelV v u) (Q:cl.map (·.1)=ys) (hnd:(cl.map (·.2)).Nodup) (M:zBf H cl vs)
  (X:I.Ns s.heap.objs.size (λy=>([(x,u)]:List (Str×Value)).reverse.lookup y)) (a0:Heap.SameBut s.heap.objs.size (s.heap.push { cls:=.type "frame",data:=.dict #[] }) I) (tk:Nat) :
  Inv (zSJ P w K mg n (x::ys) L f c cl A k s (hide H (cl.map (·.2)))) [] (some v::vs.map some) (hide H (cl.map (·.2))) { s with heap:=I,toks:=tk }:=by
 have O:∀ b o,s.heap.get? b=some o->I.get? b=some o:=λb o e=>a0.extBut b o (ne_of_lt (lt_size e)) (get?_push_of_some _ e)
 have hS:∀ b∈cl.map (·.2),∃ o v,H b=some (.frz o anyU)/\o.data=.cell v:=λb z=>by
  obtain⟨p,B,rfl⟩:=mem_map.mp z;obtain⟨o,u,t,E⟩:=M.mem p B;exact⟨o,_,t,E⟩
 have R:=zLv hS g.hok;have none_of:∀ {b:Addr},H b=none->hide H (cl.map (·.2)) b=none:=λ{b} q=>by
  by_cases z:b∈cl.map (·.2)
  .exact zCK z
  .rw [zAQ z];exact q
 have N:∀ {y:Str} {j:Addr},cl.lookup y=some j->(y,j)∈cl:=λe=>PySem.mem_of_lookup e
 have cell:∀ {y:Str} {j:Addr},(y,j)∈cl->∃ cv,I.IsCell j cv:=λ{y j} m=>by
  obtain⟨o,u,t,E⟩:=M.mem _ m;obtain⟨G,_⟩:=g.hok _ _ t;exact⟨_,o,O _ _ G,E⟩
 have d:ys.Nodup:=(nodup_cons.mp S.nd).2;have nx:x∉ys:=(nodup_cons.mp S.nd).1;have C:∀ b:Addr,b∉([]:List Addr):=λb z=>absurd z (by simp)
 have lv:vs.length=cl.length:=(Paired.length M).symm;refine⟨⟨g.mod,S.kind,rfl,rfl,le_refl _,λy z j t E=>?_,λy F=>?_,λy j q _=>(by cases q),λ_=>hd,Around.frames_deeper g.frames,.inr ⟨rfl,rfl⟩,λb z=>absurd z (C b),λb o e=>⟨(g.bs b o e).1,none_of (g.bs b o e).2⟩,g.bsz,λb _ _=>C b,λb z=>absurd z (C b),g.funs,λb z=>none_of (g.frf b z),⟨Y,g.tree,_,_,rfl,S.gen,S.co,rfl,rfl⟩,λy F j T e=>?_⟩,
  rfl,g.bare,Un.kept O,⟨_,X,λi y v' t E h3=>?_⟩,λy j h=>cell (N h),g.hok.fresh (le_refl _) |> none_of,λy j h=>zCK (mem_map.mpr ⟨_,N h,rfl⟩),λp B=>absurd (show p∈([]:List (Addr×Obj)) from B) (by simp),R.kept O,?_⟩
 .-- the cells are apart
  have a1:=N t;have a2:=N E;have U:∀ {l:List (Str×Addr)},(l.map (·.2)).Nodup->∀ {p q:Str×Addr},p∈l->q∈l->p.2=q.2->p=q:=by
   intro l nd
   induction l with
   | nil=>intro p q B;exact absurd B (by simp)
   | cons a l ih =>
    grind
  exact congrArg Prod.fst (U hnd a1 a2 rfl)
 .have J:L.scope.names.lookup y=some .cell\/L.scope.names.lookup y=some .free:=F;rcases J with q | q
  .exact absurd rfl (S.nocell _ (PySem.mem_of_lookup q))
  .have m:=S.all y q;rw[<- Q] at m;obtain⟨p,B,rfl⟩:=mem_map.mp m;obtain⟨i,hi,e⟩:=List.getElem_of_mem B;exact⟨p.2,(zFy Q d (i:=i) (p:=p) (by rw[<- e];exact getElem?_eq_getElem hi)).1⟩
 .have q:=g.tabs y F j T e;show hide H _ T=_;rw[zAQ λz=>?_]
  .exact q
  .obtain ⟨o,_,q2,_⟩:=hS T z;rw[q] at q2;cases q2
 .cases i with
  | zero =>
   have G:x=y:=by
    have D:(x::ys)[0]?=some y:=t;simpa using D
   have Z:v=v':=by simpa using E
   subst G Z;exact⟨u,r,.inl ⟨S.par,by simp⟩⟩
  | succ i =>
   have G:ys[i]?=some y:=by
    have D:(x::ys)[i+1]?=some y:=t;simpa using D
   have Z:vs[i]?=some v':=by
    simp_all
   obtain⟨p,o,uu,g1,g2,g3,g4⟩:=M.get Z;obtain⟨k1,k2⟩:=zFy Q d g1;rw[G] at k2;have ey:y=p.1:=xY k2;subst ey;obtain⟨g5,_⟩:=g.hok _ _ g2;exact⟨uu,g4,.inr ⟨.inr (S.fr _ (mem_of_getElem? G)),p.2,k1,o,O _ _ g5,g3⟩⟩
 .show (some v::vs.map some).length=(x::ys).length;rw[x9,x9,List.length_map,lv,<- Q,List.length_map]
theorem zLr {P:Program}{w:World}{K:W.Frag}{F:Str->Option Value}{d:Heap}{A:Around}{a:List Env}{s:Shared}{H:Hp}{Q:VK}{E:XK}{k:Nat}{f:Addr}{L:LamI}{x:Str}{ys:List Str}{v:V}{u:Value}{vs:List V}
  (n:Room (k+1) A) (g:Env0 P w K F d A a s H) (la:zDO H L f vs) (Y:frN L=ys) (S:zGS x ys L) (rv:RelV v u)
  (body:∀ (c:Addr) (cl:List (Str×Addr)),cl.map (·.1)=ys->zBf H cl vs->(∀ b∈cl.map (·.2),∃ o v,H b=some (.frz o anyU)/\o.data=.cell v)->∃ t:TE,PE (zSJ P w K F d (x::ys) L f c cl A a s (hide H (cl.map (·.2)))) L.body t /\
   t (some v::vs.map some) (hide H (cl.map (·.2))) λv' H2=>∀ H',(∀ b∈cl.map (·.2),H' b=H b)->(∀ b,b∉cl.map (·.2)->H' b=H2 b)->Same H2 H'->(∀ b∈cl.map (·.2),H2 b=none)->Q v' H') :
  codeAny (model P w) A (.call (.ref f) ⟨[u],[]⟩) (CR CX0 a P w H s Q E) s:=by
 obtain⟨cl,pm,c,R,oc,u1,h1,h2,h3,B,h5,j⟩:=la;rw[Y] at B;obtain⟨X,_⟩:=g.hok _ _ h1;obtain⟨g2,_⟩:=g.hok _ _ h2;obtain⟨l,ct,d1,d2⟩:=h3;have D:∀ b∈cl.map (·.2),∃ o v,H b=some (.frz o anyU)/\o.data=.cell v:=λb z=>by
  obtain⟨p,hp,rfl⟩:=mem_map.mp z;obtain⟨o,u,T,q2⟩:=j.mem p hp;exact⟨o,_,T,q2⟩
 refine W.kla_callFunE n.depth X rfl S.co S.gen rfl ⟨c,oc,l,ct,rfl,g2,d1,d2⟩ ?_;rw[S.bind];have y:s.heap.NoLimit:=g.mod.nolimit.keeps λb o e=>(g.bs b o e).1
 refine xj (wpAny_newFunctionEnv S.nocell (λy M=>by rw[mem_singleton.mp M];exact S.par) (λO7 r h=>⟨y.fresh _ h,?_⟩) S.kind);obtain⟨t,ht,hq⟩:=body c cl B j D;have I:=zOr (f:=f) (c:=c) S n.hd (by have:=n.dp;show A.depth+1+100 < _;omega) g rv B h5 j r h (s.toks+1);refine W.kla_codeExpr (wpAny_mono (ht [] _ _ _ _ I hq) (λuu U m=>?_) λe U m=>m.elim);obtain⟨v',H2,J,C,q⟩:=m;obtain⟨H',N,O,Z,p4,un,i⟩:=zN7 (P:=P) (w:=w) (fs:=frs a) (S:=cl.map (·.2)) (λb z=>let ⟨o,_,q,_⟩:=D b z;⟨o,q⟩) (λb z G=>by
  obtain⟨o,_,q,_⟩:=D b z;rw[g.frf b G] at q;cases q) g.hok J.base J.hok
 exact⟨v',H',J.os,J.bare,un,i,C,q H' N O Z p4⟩
noncomputable def clos:List (Str×NameKind)->List (Str×Addr)->List (Str×Addr)->Option (List (Str×Addr))
 | [],_,acc=>some acc
 | (x,k)::r,cs,acc=>if k==.free then (match cs.lookup x with
  | some c=>clos r cs ((x,c)::acc)
  | none=>none) else clos r cs acc
theorem zG3 :∀ {l:List (Str×NameKind)} {acc:List (Str×Addr)},clos l env.cells acc=some cl ->
  (forIn l acc (λ(x:Str×NameKind) (r:List (Str×Addr))=>match x with
   | (name,kind)=>if (kind==.free)=true then (do let c<-cellOf env name;pure (ForInStep.yield ((name,c)::r))) else pure (ForInStep.yield r)):Sem (List (Str×Addr)))=pure cl
 | [],acc,h=>by
  cases h;simp
 | (x,k)::l,acc,h=>by
  unfold clos at h;rw[forIn_cons];by_cases e:(k==NameKind.free)=true
  .rw [if_pos e] at h;split at h
   .rename_i c ec;have:=zG3 (l:=l) h;have ce:cellOf env x=pure c:=by unfold cellOf;rw[ec]
    simp only[e,if_true,ce,pure_bind];exact this
   .cases h
  .rw [if_neg e] at h;have:=zG3 (l:=l) h;simp only[e,Bool.false_eq_true,if_false,pure_bind];exact this
theorem zEi (h:clos sc.names env.cells []=some cl):closureFor sc env=pure cl:=by
 unfold closureFor;have:=zG3 h;simp only[bind_pure];omega
theorem zFb {a b:Nat}{c:Value}(l:List Value)(h:TriplesOk l):TriplesOk (l++[rawInt a,rawInt b,c]):=by
 fun_induction TriplesOk l with
 | case1=>simp[TriplesOk,rawInt]
 | case2 _ _ _ _ _ d e=>simpa [TriplesOk] using e h
 | case3=>cases h
theorem zIV {pos:Pos}{a b:Nat}{c d:Value}(l:List Value)(h:TriplesOk l)(e:codeAmong pos (l++[rawInt a,rawInt b,c])=some d):codeAmong pos l=some d\/d=c:=by
 fun_induction TriplesOk l with
 | case1 =>
  simp only[List.nil_append,rawInt,codeAmong] at e
  simp_all
 | case2 f t i u x g j =>
  simp only[List.cons_append,codeAmong] at e ⊢;split at e
  .simp_all
  .rename_i z;rw[if_neg z];exact j h e
 | case3=>cases h
section
variable {X:Cx}{pins:List (Addr×Obj)}{σ:St}{H:Hp}{s:Shared}
theorem zHS (I:Inv X pins σ H s)
  (hd:defaultsOf params X.env=([],[])) (hcl:clos scope.names X.env.cells []=some cl) (hcode:X.env.code=.ref c) (C:W.CodeHd X.base c P) (hP:H P=some (.tbl (X.env.qual ++ "<lambda>")))
  (h:∀ f c' ctv pm oc u1 H1 s',Same H H1->H f=none->H1 f=some (.frz (W.kla_obj "<lambda>" (X.env.qual ++ "<lambda>") params body scope cl pm c' ctv) anyU)->H1 c'=some (.frz oc u1)->zK9 oc (X.env.qual ++ "<lambda>")->Inv X pins σ H1 s'->Q (.ref f) s') :
  wpAny (model X.prog X.w) X.A (eval (.Lambda params body scope pos) X.env) Q E s:=by
 refine W.kla_eval hd ?_;have hg:s.heap.Ns mainGlobals X.mg:=I.ok.mod.glob.keeps I.bk;obtain⟨ps,e1,t1,cs⟩:=I.hok P _ hP;have C':=C.keeps I.bk;have hgP:mainGlobals≠P:=λz=>by
  obtain⟨o,es,ep,e,d,_⟩:=hg;rw[z,e1] at e;cases e;cases d
 obtain⟨bm,ob,b1,b2,b3,b4,b5,b6⟩:=I.ok.mod.bm;have b3':=I.bk _ _ b3;have hbm:bm≠mainGlobals:=λz=>by
  obtain⟨o,es,ep,e,d,_⟩:=hg;rw[<- z,b3'] at e;cases e;rw[b6] at d;cases d
 have hbP:bm≠P:=λz=>by
  rw[z,e1] at b3';cases b3';cases b4
 have hb:s.heap.BuiltinsAt X.mg P:=⟨bm,ob,b1,b2,hbm,hbP,b3',b4,b5,b6⟩;cases e:codeAmong pos ps.toList with
 | none =>
  refine W.kla_makeFunction (zEi hcl) I.ok.glob hg hcode C' e1 t1 e hgP hb λc' ctv h' tk hx hge hlt hrec htb=>?_
  obtain⟨c2,oc,vs,t,q1,q2,q3,q4⟩:=hrec;cases q1;have szh:s.heap.objs.size<=h'.objs.size:=le_trans hge (Nat.le_of_lt hlt);have nc:H c'=none:=I.hok.fresh hge;have nf:H h'.objs.size=none:=I.hok.fresh szh;have ncf:c'≠h'.objs.size:=ne_of_lt hlt;obtain⟨fo,efo⟩:∃ fo:Obj,fo=W.kla_obj "<lambda>" (X.env.qual ++ "<lambda>") params body scope cl ((X.mg "__name__").getD .none) c' ctv:=⟨_,rfl⟩;obtain⟨H1,eH⟩:∃ H1:Hp,H1=upd (upd H c' (.frz oc anyU)) h'.objs.size (.frz fo anyU):=⟨_,rfl⟩;have sm:Same H H1:=λb o q=>by
   rw[eH,zAI (zAt q nf),zAI (zAt q nc)];exact q
  have at1:H1 h'.objs.size=some (.frz fo anyU):=by rw[eH];exact zAJ
  have at2:H1 c'=some (.frz oc anyU):=by rw[eH,zAI ncf];exact zAJ
  have oth:∀ {b:Addr},b≠c'->b≠h'.objs.size->H1 b=H b:=λ{b} z1 z2=>by rw[eH,zAI z2,zAI z1]
  have kp:∀ b o,b≠P->s.heap.get? b=some o->(h'.push fo).get? b=some o:=λb o z q=>get?_push_of_some _ (hx b o z q)
  have lt:∀ {b:Addr} {o:Obj},s.heap.get? b=some o->b≠c'/\b≠h'.objs.size:=λ{b o} q=>⟨ne_of_lt (xJ (lt_size q) hge),ne_of_lt (xJ (lt_size q) szh)⟩
  have nP:∀ {b:Addr},H b=none->b≠P:=λ{b} q z=>by rw[z,hP] at q;cases q
  have un:Un X.fs [] H H1 s.heap (h'.push fo):=⟨λb o q n _ _=>kp b o (nP n) q,λb o q n _ _=>⟨o.slots,kp b o (nP n) q⟩,λb o q n _=>by
    obtain⟨z1,z2⟩:=lt q;rw[oth z1 z2];exact n,λb o q _=>by
    by_cases z:b=P
    .subst z;exact⟨_,get?_push_of_some _ htb⟩
    .exact ⟨o,kp b o z q⟩,λb xs q=>sm _ _ q,λb o u q=>sm _ _ q,λb q' q=>sm _ _ q⟩
  have hok:HOk X.prog X.w H1 (h'.push fo):=λb u q=>by
   by_cases z1:b=h'.objs.size
   .subst z1;rw[at1] at q;cases q;exact zD8 (get?_push_size _ (by rw[efo];rfl))
   .by_cases z2:b=c'
    .subst z2;rw[at2] at q;cases q;exact zD8 (get?_push_of_some _ q2)
    .rw [oth z2 z1] at q;by_cases z3:b=P
     .subst z3;rw[hP] at q;cases q;refine⟨_,get?_push_of_some _ htb,?_,λpos' cv z=>?_⟩
      .rw [Array.toList_append];exact zFb _ t1
      .rw [Array.toList_append] at z;rcases zIV _ t1 z with z | z
       .obtain ⟨c3,oc3,u3,g1,g2,g3⟩:=cs pos' cv z;exact⟨c3,oc3,u3,g1,sm _ _ g2,g3⟩
       .exact ⟨c',oc,anyU,z,at2,vs,t,q3,q4⟩
     .refine (I.hok b u q).stay (λd v hd w'=>kp d v ?_ w') (λd w'=>sm _ _ w') (λd xs w'=>sm _ _ w') λd o' u' w' _=>sm _ _ w'
      grind
  have I1:=I.un (t':=tk) un hok;rw[efo] at I1 at1;exact h _ c' ctv _ oc anyU H1 _ sm nf at1 at2 ⟨vs,t,q3,q4⟩ I1
 | some cv =>
  obtain⟨c',oc,u1,rfl,hc',co⟩:=cs pos cv e;refine W.kla_makeFunctionHit (zEi hcl) I.ok.glob hg hcode C' e1 t1 e hb λctv h' tk hk hsz=>?_
  have nf:H h'.objs.size=none:=I.hok.fresh hsz;have I1:=I.laid (a:=h'.objs.size) (o:=.frz (W.kla_obj "<lambda>" (X.env.qual ++ "<lambda>") params body scope cl ((X.mg "__name__").getD .none) c' ctv) anyU) (t':=tk) (λb o q=>get?_push_of_some _ (hk b o q)) hsz (zD8 (get?_push_size _ rfl));exact h _ c' ctv _ oc u1 _ _ (zAU nf _) nf zAJ (by rw[zAI (zAt hc' nf)];exact hc') co I1
end
end DL
end
section
namespace DL
open PySem Spec PyProof.Rows L2
mutual
noncomputable def noF:D->Bool
 | .lam _ _ _=>false
 | .tup ds=>noFs ds
 | .lst ds=>noFs ds
 | .obj _ _ ds=>noFs ds
 | _=>true
noncomputable def noFs:List D->Bool
 | []=>true
 | d::ds=>noF d&&noFs ds
end
abbrev zPx (H:Hp) (S:List Addr):Prop:=∀ b∈S,∃ o v,H b=some (.frz o anyU)/\o.data=.cell v
section
variable {K:W.Frag}{H:Hp}{S:List Addr}
theorem zCP (a:zPx H S)(e:H b=some u)(n:∀ o v,u=.frz o anyU->o.data≠.cell v):hide H S b=some u:=by
 rw[zAQ λz=>?_]
 .omega
 .obtain ⟨o,v,c,d⟩:=a b z
  simp_all
mutual
theorem Den.hideC (hS:zPx H S):∀ {d:D} {v:V},noF d=true->Den K H d v->Den K (hide H S) d v
 | .non,_,_,h=>by rw[Den] at h ⊢;exact h
 | .bl _,_,_,h=>by rw[Den] at h ⊢;exact h
 | .int _,_,_,h=>by rw[Den] at h ⊢;exact h
 | .str _,_,_,h=>by rw[Den] at h ⊢;exact h
 | .tup ds,_,n,h=>by
  rw[noF] at n;rw[Den] at h ⊢;obtain⟨a,vs,h1,h2,h3⟩:=h;refine⟨a,vs,h1,?_,DenL.hideC hS n h3⟩;rcases h2 with (q | ⟨o,q⟩) | q
  .exact .inl (.inl (zCP hS q λo v z=>nomatch z))
  .exact .inl (.inr ⟨o,zCP hS q λo v z=>nomatch z⟩)
  .exact .inr q
 | .lst ds,_,n,h=>by
  rw[noF] at n;rw[Den] at h ⊢;obtain⟨a,vs,h1,h2,h3⟩:=h;refine⟨a,vs,h1,?_,DenL.hideC hS n h3⟩;rcases h2 with (q | ⟨o,q⟩) | q
  .exact .inl (.inl (zCP hS q λo v z=>nomatch z))
  .exact .inl (.inr ⟨o,zCP hS q λo v z=>nomatch z⟩)
  .exact .inr q
 | .exc c,_,_,h=>by
  rw[Den] at h ⊢;obtain⟨a,o,u,C,h1,h2,h3,⟨vs,h4⟩,h5⟩:=h;exact⟨a,o,u,C,h1,zCP hS h2 (λo' v z d=>by cases z;rw[h4] at d;cases d),h3,⟨vs,h4⟩,h5⟩
 | .dct ks,_,_,h=>by
  rw[Den] at h ⊢;obtain⟨a,kvs,h1,h2,h3⟩:=h;exact⟨a,kvs,h1,zCP hS h2 (λo v z=>nomatch z),h3⟩
 | .lam _ _ _,_,n,_=>by rw[noF] at n;cases n
 | .obj c ns ds,_,n,h=>by
  rw[noF] at n;rw[Den] at h ⊢;obtain⟨a,vs,h1,⟨C,dx,gs,h2,h3⟩,h4⟩:=h;exact⟨a,vs,h1,⟨C,dx,gs,zCP hS h2 (λo v z=>nomatch z),h3⟩,DenL.hideC hS n h4⟩
 | .fn _ x,_,_,h=>by rw[Den] at h ⊢;exact h
theorem DenL.hideC (hS:zPx H S):∀ {ds:List D} {vs:List V},noFs ds=true->DenL K H ds vs->DenL K (hide H S) ds vs
 | [],_,_,h=>by rw[DenL] at h ⊢;exact h
 | d::ds,_,n,h=>by
  rw[noFs,yx] at n;rw[DenL] at h ⊢;obtain⟨v,ws,h1,h2,h3⟩:=h;exact⟨v,ws,h1,Den.hideC hS n.1 h2,DenL.hideC hS n.2 h3⟩
end
end
def zC9 (P:Program)(w:World)(K:W.Frag)(mg:Str->Option Value)(base:Heap)(k:Nat)(L:LamI)(F:List D->Option R):Prop :=
 ∀ (A:Around) (outer:List Env) (s:Shared) (H:Hp) (f:Addr) (vs:List V) (ds:List D) (v:V) (u:Value) (d:D) (r:R) (Q:VK) (E:XK),Room k A->Env0 P w K mg base A outer s H->zDO H L f vs->DenL K H ds vs->RelV v u->Den K H d v->F (d::ds)=some r->r.2≠.dt ->
  (∀ v' H',Same H H'->RV K H H' [] r v'->Q v' H')->codeAny (model P w) A (.call (.ref f) ⟨[u],[]⟩) (CR CX0 outer P w H s Q E) s
theorem zC9.mono {K:W.Frag}(h:zC9 P w K mg base j L F)(e:j<=k):zC9 P w K mg base k L F :=
 λA a s H f g b v u d r Q E c=>h A a s H f g b v u d r Q E (c.mono e)
theorem zOj {K:W.Frag}(S:zGS x ys L)(ey:frN L=ys)
  (hb:∀ Y:Cx,Y.prog=P->Y.w=w->Y.K=K->Y.mg=mg->Y.base=base->Room k Y.A->Y.calm=true->Y.N=x::ys->Y.env.scope=L.scope->Y.xe=(λ_ _=>False)->GE Y L.body G) :
  zC9 P w K mg base (k+1) L (λds=>if ds.length=ys.length+1/\noFs ds=true then G (ds.map λd=>some (d,false)) else none):=by
 intro A p s H f vs ds v u d r Q E N e0 la J rv dd h hk c;replace h:(if (d::ds).length=ys.length+1/\noFs (d::ds)=true then G ((d::ds).map λd=>some (d,false)) else none)=some r:=h;have q:=Classical.byContradiction λz=>by rw[if_neg z] at h;cases h
 rw[if_pos q] at h;have t:=q.2;rw[noFs,yx] at t;refine zLr N e0 la ey S rv λcc cl a8 hc O=>⟨_,hb _ rfl rfl rfl rfl rfl (N.deeper _) rfl rfl rfl rfl,?_⟩
 have B:=Den.hideC O t.1 dd;have y:=DenL.hideC O t.2 J;refine⟨[],(d::ds).map λd=>some (d,false),r,⟨?_,λa z=>absurd z (by simp),λi g o z=>?_,λi j g e' a l _ _ _=>?_⟩,h,λv' T R r2 m U p2 C p4=>?_⟩
 .rw [List.length_map,x9,x9,List.length_map,J.length]
 .rw [getElem?_map] at z;obtain⟨d2,l,n⟩:=yj.mp z;cases n;cases i with
  | zero =>
   have:d=g:=by simpa using l
   subst this;exact⟨v,rfl,.of_den (by rw[zBm];exact B)⟩
  | succ i =>
   have F:ds[i]?=some g:=by simpa using l
   obtain⟨V,g1,g2⟩:=y.get F;exact⟨V,by show (vs.map some)[i]?=_;rw[getElem?_map,g1];rfl,.of_den (by rw[zBm];exact g2)⟩
 .rw [getElem?_map] at l;obtain⟨d2,_,n⟩:=yj.mp l;cases n
 .have sm:Same H m:=λb o e=>by
   by_cases z:b∈cl.map (·.2)
   .rw [U b z];exact e
   .rw [p2 b z];exact R b o (by rw[zAQ z];exact e)
  refine c v' m sm ?_;obtain⟨g,kd⟩:=r;cases kd with
  | cl =>
   have z:Den K (hide T []) g v':=r2;show Den K (hide m []) g v';rw[zBm] at z ⊢;exact z.mono C
  | fr =>
   obtain⟨a,ws,es,B,y,X,I,D,Z⟩:=r2;have na:a∉cl.map (·.2):=λz=>by rw[p4 a z] at D;cases D
   refine⟨a,ws,es,B,y,X,by rw[zAQ na] at I;exact I,C _ _ D,Z.mono (zAP C)⟩
  | dt=>exact absurd rfl hk
noncomputable def eqc:Expr->Option ((Str×Pos)×Option (Str×Pos))
 | .Name a p=>some ((a,p),none)
 | .Attribute e x r=>(match e with
  | .Name a p=>some ((a,p),some (x,r))
  | _=>none)
 | _=>none
noncomputable def eqe:(Str×Pos)×Option (Str×Pos)->Expr
 | (a,none)=>.Name a.1 a.2
 | (a,some b)=>.Attribute (.Name a.1 a.2) b.1 b.2
theorem eqg {e:Expr}{c}(h:eqc e=some c):e=eqe c:=by
 unfold eqc at h;split at h
 .cases h;rfl
 .split at h
  .cases h;rfl
  .cases h
 .cases h
noncomputable def eqh (A:Arguments):Option (Str×Pos):=if A.posonlyargs.isEmpty&&A.vararg.isNone&&A.kwonlyargs.isEmpty&&A.kw_defaults.isEmpty&&A.kwarg.isNone&&A.defaults.isEmpty then (match A.args with
 | [⟨x,y,p⟩]=>if y.isNone then some (x,p) else none
 | _=>none) else none
theorem eqi {A:Arguments}{c}(h:eqh A=some c):A=⟨[],[⟨c.1,none,c.2⟩],none,[],[],none,[]⟩:=by
 unfold eqh at h;split at h
 .rename_i q;split at h
  .rename_i e;split at h
   .rename_i r;cases h;cases A;simp only[yx,List.isEmpty_iff,Option.isNone_iff_eq_none] at *;obtain⟨⟨⟨⟨⟨rfl,rfl⟩,rfl⟩,rfl⟩,rfl⟩,rfl⟩:=q;rw[e,r]
   .cases h
  .cases h
 .cases h
abbrev EqT:=(Str×Pos)×Option (Str×Pos)
instance:DecidableEq EqT:=inferInstance
noncomputable def eqj (e:Expr):Option (EqT×EqT×EqT×Pos):=match e with
 | .Call f l k q=>(match l with
  | [a,b]=>(match k with
   | []=>(eqc f).bind λf=>(eqc a).bind λa=>(eqc b).map λb=>(f,a,b,q)
   | _=>none)
  | _=>none)
 | _=>none
theorem eqk {e:Expr}{c}(h:eqj e=some c):e=.Call (eqe c.1) [eqe c.2.1,eqe c.2.2.1] [] c.2.2.2:=by
 unfold eqj at h;split at h
 .split at h
  .split at h
   .obtain ⟨f,e1,h⟩:=bind_some h;obtain⟨a,e2,h⟩:=bind_some h;obtain⟨b,e3,rfl⟩:=yj.mp h;rw[eqg e1,eqg e2,eqg e3]
   .cases h
  .cases h
 .cases h
noncomputable def eqL (a b:LamI):Bool:=decide (a.qual=b.qual/\eqh a.params=eqh b.params/\eqj a.body=eqj b.body/\a.scope=b.scope)&&(eqh a.params).isSome&&(eqj a.body).isSome
theorem zSC {a b}(h:eqL a b=true):a=b:=by
 unfold eqL at h;rw[yx,yx,qy] at h;obtain⟨⟨⟨h1,h2,h3,h4⟩,h5⟩,h6⟩:=h;obtain⟨x,h5⟩:=Option.isSome_iff_exists.mp h5;obtain⟨y,h6⟩:=Option.isSome_iff_exists.mp h6;rw[h5] at h2;rw[h6] at h3;cases a;cases b;cases h1;cases h4;simp only at *;rw[eqi h5,eqi h2.symm,eqk h6,eqk h3.symm]
noncomputable def lamF (lm:List (LamI×(List D->Option R)))(j:Nat)(L:LamI)(ds:List D):Option R:=match lm[j]? with
 | some (L',F)=>if eqL L' L=true then F ds else none
 | none=>none
noncomputable def fnvF (fns:List (Str×(List D->Option R)))(n:Nat)(x:Str)(ds:List D):Option R:=match fns[n]? with
 | some (y,F)=>if y=x then F ds else none
 | none=>none
noncomputable def zKs (lm:List (LamI×(List D->Option R)))(fns:List (Str×(List D->Option R)))(i:Nat)(f:Dst->Option R):Dst->Option R:=λG=>match G[i]? with
 | some (some (.fn n y,false))=>(f G).bind λx=>if x.2=.dt then none else (fnvF fns n y [x.1]).bind λr=>if r.2=.dt then none else some r
 | some (some (.lam j L ds,false))=>(f G).bind λx=>if x.2=.dt then none else (lamF lm j L (x.1::ds)).bind λr=>if r.2=.dt then none else some r
 | _=>none
variable {X:Cx}
theorem zMF (LR:∀ (j:Nat) L F,lm[j]?=some (L,F)->zC9 X.prog X.w X.K X.mg X.base k L F)(FR:∀ x F,(x,F)∈fns->∃ f fd ps,FnOk X.prog X.w X.K X.mg X.base CX0 k f fd ps (spD X.K F)/\X.mg x=some (.ref f)/\W.keepIn X.K (.ref f)=true/\zBJ X.K fd ps [])(hr:Room k X.A)(hN:X.N[i]?=some y)(hv:Vis X.env.scope y)(hd:(y==("__debug__":Str))=false)(J:(y==("__classdict__":Str))=false)
  (ha:GE X a f) (he:starEach (a::[]) X.env=(false,eval a X.env)::starEach [] X.env) (px:PassesOwn (model X.prog X.w) X.A X.env X.xe:=by assumption):GE X (.Call (.Name y p) [a] [] pos) (zKs lm fns i f):=by
 intro g s σ H Q I ⟨S,G,z,C,e,c⟩;unfold zKs at e;split at e
 .rename_i n x0 q;obtain⟨x,ex,e⟩:=bind_some e;by_cases hx:x.2=.dt
  .rw [if_pos hx] at e;cases e
  rw[if_neg hx] at e;obtain⟨r,b,e⟩:=bind_some e;by_cases hk:r.2=.dt
  .rw [if_pos hk] at e;cases e
  rw[if_neg hk] at e;cases e;obtain⟨v0,q1,q2⟩:=C.get i _ false q;have T:=q2.den rfl;rw[Den] at T;obtain⟨m,rfl,cn⟩:=T;unfold fnvF at b;split at b
  .rename_i y' F el;have eL:y'=x0:=Classical.byContradiction λz=>by rw[if_neg z] at b;cases b
   rw[if_pos eL] at b;subst eL;obtain⟨f1,fd,ps,FO,hm,b2,hb⟩:=FR _ F (mem_of_getElem? el);have Z:X.mg y'=some (.ref m):=W.mg_of I.ok.mod.kin I.ok.mod.glob cn;rw[hm] at Z;cases Z;refine wpAny_Call_Name_kw (thn (zDR hN hv hd J g s σ H (λx h=>x=.ref m/\h=H) I ⟨_,q1,rfl,rfl⟩) λu A O=>?_);obtain⟨x1,h,P,rx,e1,e2⟩:=O;subst e1 e2;obtain rfl:u=Value.ref m:=rx;refine W.callWith_K (h₀:=X.base) P.ok.mod.kin b2 (thn (zAR ha zAs he pos g A σ _ (λvs l=>spD X.K F (vs++[]) l Q E0) P ?_) λus o w=>by obtain⟨vs,l,B,rr,qq⟩:=w;exact⟨B.kIn,zFh FO hr hb .nil zH2 B rr qq⟩) he rfl;refine⟨S,G,x,C,ex,λvx l o r2=>?_⟩;exact⟨S,[x.1],_,(C.mono o).sok,.cons (RV.den (d:=x.1) (k:=x.2) r2 hx) .nil,b,hk,λv H' U r3=>c v H' (o.trans U) (r3.from o)⟩
  .cases b
 .rename_i j L dl q;obtain⟨x,ex,e⟩:=bind_some e;by_cases hx:x.2=.dt
  .rw [if_pos hx] at e;cases e
  rw[if_neg hx] at e;obtain⟨r,b,e⟩:=bind_some e;by_cases hk:r.2=.dt
  .rw [if_pos hk] at e;cases e
  rw[if_neg hk] at e;cases e;obtain⟨v0,q1,q2⟩:=C.get i _ false q;have T:=q2.den rfl;rw[Den] at T;obtain⟨m,vs,rfl,la,b8⟩:=T;unfold lamF at b;split at b
  .rename_i L' F el;have V:eqL L' L=true:=Classical.byContradiction λz=>by rw[if_neg z] at b;cases b
   rw[if_pos V] at b;have eL:=zSC V;subst eL;have M:∀ {h:Hp} {A:Shared},zDO h L' m vs->HOk X.prog X.w h A.heap->W.FnAt m A.heap:=λ{h A} la b1=>by
    obtain⟨cl,pm,c',e5,oc,u1,g1,_⟩:=la;obtain⟨g2,_⟩:=b1 _ _ g1;exact⟨_,_,_,_,g2⟩
   refine wpAny_Call_Name_kw (thn (zDR hN hv hd J g s σ H (λx h=>x=.ref m/\h=H) I ⟨_,q1,rfl,rfl⟩) λu A N=>?_);obtain⟨x1,h,P,rx,e1,e2⟩:=N;subst e1 e2;obtain rfl:u=Value.ref m:=rx;have b0:gT X.K f σ h λvx l=>Same h l/\RV X.K h l S x vx:=⟨S,G,x,C,ex,λvx l o r2=>⟨o,r2⟩⟩
   refine W.callWith_F (M (la.mono zAi) P.hok) (thn (zAR ha zAs he pos g A σ _ (λxs l=>∃ vx,xs=[vx]/\Same h l/\RV X.K h l S x vx) P (by
    obtain⟨S',G',r',g1,g2,g3⟩:=b0;exact⟨S',G',r',g1,g2,λvx l o r2=>⟨vx,rfl,g3 vx l o r2⟩⟩)) λus o ⟨xs,l,B,b7,vx,a7,D,c0⟩=>?_) he
   subst a7;obtain⟨uu,rfl,c1⟩:=zFa b7;have K:zDO (hide l S) L' m vs:=la.mono (zAP D);refine⟨M (K.mono zAi) B.hok,?_⟩;refine wpAny_call (codeAny_mono (zEA (r:=z) (Q:=Q) (E:=E0) B.env0 (C.mono D).sok hk (λe1=>LR j L' F el _ _ _ _ m vs dl vx uu x.1 z _ _ hr e1 K (b8.mono (zAP D)) c1 (RV.den (d:=x.1) (k:=x.2) c0 hx) b hk λv' H' U r3=>⟨r3,U⟩) λv H' U r3=>c v H' (D.trans U) (r3.from D)) λrr s' Y=>?_);cases rr with
   | error e=>exact Y.elim
   | ok fl =>
    cases fl with
    | ret u=>exact B.after Y
    | next=>exact False.elim Y
    | brk=>exact False.elim Y
    | cont=>exact False.elim Y
  .cases b
 .cases e
end DL
end
section
namespace DL
open PySem Spec PyProof.Rows L2
variable {X:Cx}
noncomputable def fldD (ob:List (Str×Str×Option Bool))(f:Str):D->Option R
 | .obj c ns l=>if (c,f,none)∈ob then ((ns.zip l).lookup f).map λd=>(d,.cl) else none
 | _=>none
theorem zKK {K:W.Frag}{gs:List (Str×V)}:∀ {ns:List Str} {vs:List V} {l:List D},(ns.map λn=>gs.lookup n)=vs.map some->DenL K H l vs->(ns.zip l).lookup f=some d->∃ v,gs.lookup f=some v/\Den K H d v
 | [],_,_,_,_,e=>by simp at e
 | n::ns,vs,[],_,_,e=>by simp at e
 | n::ns,vs,x::l,h,t,e=>by
  rw[DenL] at t;obtain⟨v,us,rfl,t1,t2⟩:=t;simp only[map_cons,List.cons.injEq] at h;rw[List.zip_cons_cons,lookup_cons] at e;by_cases q:(f==n)=true
  .rw [q] at e;cases e;exact⟨v,by rw[eq_of_beq q];exact h.1,t1⟩
  .rw [Bool.not_eq_true] at q;rw[q] at e;exact zKK h.2 t2 e
theorem Rdv.obj {K:W.Frag}(h:Rdv K H S (.obj c ns l) v):Den K (hide H S) (.obj c ns l) v:=by
 rcases h with h | ⟨_,_,_,_,h2,_⟩
 .omega
 .cases h2
theorem zRq (q:GE X e g)(w:attributeBase e fl X.env (eval e X.env)=eval e X.env)(s:∀ c,(c,fl,none)∈ob->∀ C,zAp X.K c C->Cls X.K C/\zBM X.K C fl):GE X (.Attribute e fl pos) (one g (fldD ob fl)):=by
 refine(zNC q w).imp fun σ H Q zz89=>?_
 obtain⟨S,G,z,A,e,c⟩:=zz89;obtain⟨x,h,e⟩:=bind_some e;unfold fldD at e;split at e
 .rename_i b J l y;by_cases m:(b,fl,none)∈ob
  .rw [if_pos m] at e;obtain⟨d,r,k⟩:=yj.mp e;cases k;refine⟨S,G,x,A,h,λvx D B r1=>?_⟩;have r2:=r1.rd;rw[y] at r2;have r3:=r2.obj;obtain⟨a,F,rfl,⟨C,p,f,i,I,t,j⟩,h5⟩:=r3;obtain⟨v,E,u⟩:=zKK j h5 r;obtain⟨o,n⟩:=s b m C t;exact⟨a,C,p,f,v,rfl,zAi _ _ i,o,n,E,c v D B u⟩
  .rw [if_neg m] at e;cases e
 .cases e
structure OCls (K:W.Frag)(C:Addr):Prop where
 cl:Cls K C
 ha:W.findIn K (.ref C) "__class__"=some (some (.builtin "object.__class__"))
 hm:W.mroIn K C (.type "object")=some true
 hn:W.specialIn K (.builtin "object.__class__") "__get__"=some (some (.builtin "getset_descriptor.__get__"))
 htk:W.takesIn K (.builtin "object.__class__")=some true
 eq:W.findIn K (.ref C) "__eq__"=some (some (.builtin "object.__eq__"))
def ObOk (K:W.Frag)(mg:Str->Option Value)(p:Str×Str×Option Bool):Prop:=match p.2.2 with
 | none=>∀ C,zAp K p.1 C->Cls K C/\zBM K C p.2.1
 | some b=>∃ Y,mg p.2.1=some (.ref Y)/\∀ C,zAp K p.1 C->OCls K C/\W.kitOne K (.ref C) (.ref Y)=some b
end DL
end
section
namespace DL
open PySem Spec PyProof.Rows L2
set_option genSizeOf false in
set_option genInjectivity false in
inductive E where
 | var (i:Nat) | glob (n:Nat) (x:Str) | int (i:Int) | bl (b:Bool) | non | str (x:Str)
 | bin (op:Operator) (a b:E) | neg (a:E) | not (a:E) | cmp (op:CmpOp) (a b:E)
 | andl (es:E) | ite (c a b:E) | tup (es:E) | lst (es:E) | ix (a i:E) | sl (a lo hi:E)
 | comp1 (n:Nat) (ms:List Nat) (x:Str) (src c elt:E) 
 | lzip (a b:E)
 | it (e:E) | r1 (a:E) | r2 (a b:E) | r3 (a b c:E)
 | call (n:Nat) (f:Str) (es:E) | len (a:E) | abs (a:E) | list (a:E) | max (a b:E) | chn (op op':CmpOp) (a b c:E) | tupl (a:E) | lrev (a:E) | callv (i:Nat) (a:E) | fld (a:E) (f:Str) 
 | nil | cons (e es:E)
set_option genSizeOf false in
set_option genInjectivity false in
inductive S where
 | nil | cons (a b:S) | frz (i:Nat) (rest:S)
 | set (i:Nat) (e:E) | setC (i:Nat) (e:E) | app (i:Nat) (e:E) 
 | ife (c:E) (a b:S) | whl (c:E) (b:S) | for1 (i:Nat) (it:E) (b:S) 
 | ret (e:E) | retOwn (i:Nat) | pass | never | ext (i:Nat) (e:E) | aug (op:Operator) (i:Nat) (e:E) | rse (c:Str) (m:E) 
structure Gm where
 fns:List (Str×(List D->Option R))
 cs:List (Str×D)
 xf:List (Str×(List D->Option Str))
 sub:List (Str×Str×Bool)
 rs:List Str
 lm:List (LamI×(List D->Option R))
 ob:List (Str×Str×Option Bool)
noncomputable def zB0 (J:Gm)(y c:Str):Option Bool:=(J.sub.find? λp=>decide (p.1=c)&&decide (p.2.1=y)).map (·.2.2)
noncomputable def zEe (J:Gm)(y:Str):Bool:=J.sub.any λp=>decide (p.2.1=y)
noncomputable def mulD (i j:Int):Option R:=if i.natAbs < 18446744073709551616\/j.natAbs < 18446744073709551616 then some (.int (i*j),.cl) else none
noncomputable def zMM (i j:Int):Option R:=if j=0 then none else some (.int (i.fdiv j),.cl)
noncomputable def binD (op:Operator)(x y:D):Option R:=match op with
 | .Add=>(match x,y with
  | .int i,.int j=>some (.int (i+j),.cl)
  | .lst xs,.lst ys=>if xs.length+ys.length<=10000 then some (.lst (xs++ys),.fr) else none
  | .tup (x::xs),.tup (y::ys)=>if (x::xs).length+(y::ys).length<=10000 then some (.tup ((x::xs)++(y::ys)),.cl) else none
  | _,_=>none)
 | .Sub=>(match x,y with
  | .int i,.int j=>some (.int (i - j),.cl)
  | _,_=>none)
 | .Mult=>(match x,y with
  | .int i,.int j=>mulD i j
  | .lst xs,.int j=>if 0<=j/\j<=10000/\xs.length*j.toNat<=10000 then some (.lst (List.replicate j.toNat xs).flatten,.fr) else none
  | _,_=>none)
 | .FloorDiv=>(match x,y with
  | .int i,.int j=>zMM i j
  | _,_=>none)
 | .Mod=>(match x,y with
  | .int i,.int j=>if j=0 then none else some (.int (i.fmod j),.cl)
  | _,_=>none)
 | .Pow=>(match x,y with
  | .int i,.int j=>if 0<=j/\j<=1000000/\i.natAbs < 2^64 then some (.int (i^j.toNat),.cl) else none
  | _,_=>none)
 | _=>none
noncomputable def inD (n:Bool)(x y:D):Option R:=match x,y with
 | .int i,.lst ds=>(zDT ds).map λl=>(.bl (n != l.contains i),.cl)
 | _,_=>none
def cmpD (op:CmpOp)(x y:D):Option R:=match op with
 | .Lt=>(match x,y with
  | .int i,.int j=>some (.bl (decide (i < j)),.cl)
  | _,_=>none)
 | .LtE=>(match x,y with
  | .int i,.int j=>some (.bl (decide (i<=j)),.cl)
  | _,_=>none)
 | .Gt=>(match x,y with
  | .int i,.int j=>some (.bl (decide (j < i)),.cl)
  | _,_=>none)
 | .GtE=>(match x,y with
  | .int i,.int j=>some (.bl (decide (j<=i)),.cl)
  | _,_=>none)
 | .Eq=>eqD id x y
 | .NotEq=>eqD (λb=>!b) x y
 | .Is=>isN id x y
 | .IsNot=>isN (λb=>!b) x y
 | .In=>inD false x y
 | .NotIn=>inD true x y
noncomputable def zGA (J:Gm)(n:Nat)(x:Str):Dst->Option R:=λ_=>match J.cs[n]? with
 | some (y,d)=>if y=x then some (d,.cl) else none
 | none=>none
noncomputable def fnD (J:Gm)(n:Nat)(x:Str)(g:Dst->Option (List D)):Dst->Option R:=λG=>match J.fns[n]? with
 | some (y,F)=>if y=x then zIU F g G else none
 | none=>none
noncomputable def tg1 (i:Nat):D->Dst->Option Dst:=λd G=>some (G.set i (some (d,false)))
mutual
def evE (J:Gm):E->Dst->Option R
 | .var i=>varD i
 | .glob n x=>zGA J n x
 | .int i=>λ_=>some (.int i,.cl)
 | .bl b=>λ_=>some (.bl b,.cl)
 | .non=>λ_=>some (.non,.cl)
 | .str x=>λ_=>some (.str x,.cl)
 | .bin op a b=>two (evE J a) (evE J b) (binD op)
 | .neg a=>negD (evE J a)
 | .not a=>notD (evE J a)
 | .cmp op a b=>two (evE J a) (evE J b) (cmpD op)
 | .andl es=>evAnd J es
 | .ite c a b=>iteD (evE J c) (evE J a) (evE J b)
 | .tup es=>tupD (evEs J es)
 | .lst es=>lstD (evEs J es)
 | .ix a i=>two (evE J a) (evE J i) ixD
 | .sl a lo hi=>slD (evE J a) (evO J lo) (evO J hi)
 | .call n f es=>fnD J n f (evEs J es)
 | .len a=>one (evE J a) lenD
 | .abs a=>one (evE J a) absD
 | .list a=>one (evE J a) zOg
 | .max a b=>two (evE J a) (evE J b) maxD
 | .chn op op' a b c=>chD (cmpD op) (cmpD op') (evE J a) (evE J b) (evE J c)
 | .tupl a=>one (evE J a) zIf
 | .lrev a=>one (evE J a) revD
 | .callv i a=>zKs J.lm J.fns i (evE J a)
 | .fld a f=>one (evE J a) (fldD J.ob f)
 | .comp1 n ms _ src c e=>zIT ms 1 (evI J src) (tg1 n) (evC J c) (evE J e)
 | .lzip a b=>two (evE J a) (evE J b) zipD
 | .it _=>λ_=>none
 | .r1 _=>λ_=>none
 | .r2 _ _=>λ_=>none
 | .r3 _ _ _=>λ_=>none
 | .nil=>λ_=>none
 | .cons _ _=>λ_=>none
def evI (J:Gm):E->Dst->Option (List D)
 | .it e=>zJp (evE J e)
 | .r1 a=>zIu (evE J a)
 | .r2 a b=>zLN (evE J a) (evE J b)
 | .r3 a b c=>zN6 (evE J a) (evE J b) (evE J c)
 | _=>λ_=>none
def evC (J:Gm):E->Dst->Option Bool
 | .nil=>λ_=>some true
 | .cons c _=>asB (evE J c)
 | _=>λ_=>none
def evEs (J:Gm):E->Dst->Option (List D)
 | .nil=>λ_=>some []
 | .cons e es=>zFO (evE J e) (evEs J es)
 | _=>λ_=>none
def evLs (J:Gm):E->Dst->Option (List D)
 | .nil=>λ_=>some []
 | .cons e es=>zSK (evE J e) (evLs J es)
 | _=>λ_=>none
def evAnd (J:Gm):E->Dst->Option R
 | .cons e es=>(match es with
  | .nil=>evE J e
  | es=>andD (evE J e) (evAnd J es))
 | _=>λ_=>none
def evOr (J:Gm):E->Dst->Option R
 | .cons e es=>(match es with
  | .nil=>evE J e
  | es=>orD (evE J e) (evOr J es))
 | _=>λ_=>none
def evO (J:Gm):E->Dst->Option (Option Int)
 | .cons e _=>zOL (evE J e)
 | _=>λ_=>some none
end
noncomputable def xrs (J:Gm)(c:Str)(g:Dst->Option (List D)):Dst->Option Str:=if c∈J.rs then zMx c g else λ_=>none
noncomputable def xvS (J:Gm):S->Dst->Option Str:=λ_ _=>none
noncomputable def xvSs (J:Gm):S->Dst->Option Str:=λ_ _=>none
mutual
def evS (J:Gm):S->Dst->Option Out
 | .set i e=>setD i (evE J e)
 | .setC i e=>setD i (evE J e)
 | .app i e=>appD i (evE J e)
 | .ext i e=>extD i (evE J e)
 | .aug op i e=>augD op i (evE J e)
 | .ife c a b=>ifD (asB (evE J c)) (evSs J a) (evSs J b)
 | .whl c b=>zIZ (asB (evE J c)) (evSs J b)
 | .for1 i it b=>λG=>(evI J it G).bind λxs=>forD (tg1 i) (evSs J b) xs G
 | .ret e=>retD (evE J e)
 | .retOwn i=>zGY i
 | .pass=>λG=>some (.nx G)
 | .nil=>λ_=>none
 | .cons _ _=>λ_=>none
 | .frz _ _=>λ_=>none
 | .never=>λ_=>none
 | .rse _ _=>λ_=>none
def evSs (J:Gm):S->Dst->Option Out
 | .nil=>λG=>some (.nx G)
 | .cons a b=>seqD (evS J a) (evSs J b)
 | .frz i r=>seqD (frzD i) (evSs J r)
 | _=>λ_=>none
end
noncomputable def visB (sc:Scope)(x:Str):Bool:=match sc.names.lookup x with
 | some .local=>true
 | some .cell=>true
 | some .free=>true
 | _=>false
noncomputable def locB (sc:Scope)(x:Str):Bool:=match sc.names.lookup x with
 | some .local=>true
 | some .cell=>true
 | _=>false
noncomputable def glB (sc:Scope)(x:Str):Bool:=match sc.names.lookup x with
 | some .globalImplicit=>true
 | _=>false
noncomputable def okN (x:Str):Bool:=!(x==("__debug__":Str))&&!(x==("__classdict__":Str))
noncomputable def zAX:Expr->Bool
 | .Starred _ _=>false
 | _=>true
noncomputable def zCv:Expr->Bool
 | .Slice _ _ _ _=>false
 | _=>true
noncomputable def zDw:Expr->Bool
 | .ListComp _ _ _ _=>false
 | .SetComp _ _ _ _=>false
 | .DictComp _ _ _ _ _=>false
 | _=>true
noncomputable def zJP:Expr->Bool
 | .Set _ _ _=>false
 | _=>true
noncomputable def bltB (sc:Scope)(bs:List Str)(x:Str):Bool:=glB sc x&&bs.contains x
noncomputable def opB (op op':Operator):Bool:=decide (op=op')
noncomputable def cmB (op op':CmpOp):Bool:=decide (op=op')
noncomputable def cscB (sc scope:Scope):Bool:=(scope.kind==.function)&&decide ((scope.names.map (·.1)).Nodup)&&scope.names.all λx=>!(x.2==.free)||sc.names.lookup x.1==some .cell||sc.names.lookup x.1==some .free
noncomputable def zLj (scope:Scope)(N:List Str)(ms:List Nat):Bool:=(List.range N.length).all λi=>!(ownB scope (N.getD i (noN N)))||ms.contains i
noncomputable def zQw:Expr->Bool
 | .Name _ _=>true
 | _=>false
noncomputable def zA1 (e:Expr)(k:Str->Pos->Bool):Bool:=match e with
 | .Name x0 x1=>k x0 x1
 | _=>false
theorem zAO (h:zA1 e k=true):∃ x0 x1,e=.Name x0 x1/\k x0 x1=true:=by
 cases e<;>first | exact⟨_,_,rfl,h⟩ | exact nof h
noncomputable def zCB (e:Expr)(k:Const->Nat->Pos->Bool):Bool:=match e with
 | .Constant x0 x1 x2=>k x0 x1 x2
 | _=>false
theorem zBj (h:zCB e k=true):∃ x0 x1 x2,e=.Constant x0 x1 x2/\k x0 x1 x2=true:=by
 cases e<;>first | exact⟨_,_,_,rfl,h⟩ | exact nof h
noncomputable def zJN (e:Expr)(k:Expr->Operator->Expr->Pos->Bool):Bool:=match e with
 | .BinOp x0 x1 x2 x3=>k x0 x1 x2 x3
 | _=>false
theorem zH8 (h:zJN e k=true):∃ x0 x1 x2 x3,e=.BinOp x0 x1 x2 x3/\k x0 x1 x2 x3=true:=by
 cases e<;>first | exact⟨_,_,_,_,rfl,h⟩ | exact nof h
noncomputable def zDs (e:Expr)(k:UnaryOp->Expr->Pos->Bool):Bool:=match e with
 | .UnaryOp x0 x1 x2=>k x0 x1 x2
 | _=>false
theorem zDS (h:zDs e k=true):∃ x0 x1 x2,e=.UnaryOp x0 x1 x2/\k x0 x1 x2=true:=by
 cases e<;>first | exact⟨_,_,_,rfl,h⟩ | exact nof h
noncomputable def zDg (e:Expr)(k:BoolOp->List Expr->Pos->Bool):Bool:=match e with
 | .BoolOp x0 x1 x2=>k x0 x1 x2
 | _=>false
theorem zCt (h:zDg e k=true):∃ x0 x1 x2,e=.BoolOp x0 x1 x2/\k x0 x1 x2=true:=by
 cases e<;>first | exact⟨_,_,_,rfl,h⟩ | exact nof h
noncomputable def zCY (e:Expr)(k:Expr->List CmpOp->List Expr->Pos->Bool):Bool:=match e with
 | .Compare x0 x1 x2 x3=>k x0 x1 x2 x3
 | _=>false
theorem zB3 (h:zCY e k=true):∃ x0 x1 x2 x3,e=.Compare x0 x1 x2 x3/\k x0 x1 x2 x3=true:=by
 cases e<;>first | exact⟨_,_,_,_,rfl,h⟩ | exact nof h
noncomputable def zJH (e:Expr)(k:Expr->Expr->Expr->Pos->Bool):Bool:=match e with
 | .IfExp x0 x1 x2 x3=>k x0 x1 x2 x3
 | _=>false
theorem zH6 (h:zJH e k=true):∃ x0 x1 x2 x3,e=.IfExp x0 x1 x2 x3/\k x0 x1 x2 x3=true:=by
 cases e<;>first | exact⟨_,_,_,_,rfl,h⟩ | exact nof h
noncomputable def zGf (e:Expr)(k:List Expr->Nat->Pos->Bool):Bool:=match e with
 | .Tuple x0 x1 x2=>k x0 x1 x2
 | _=>false
theorem zEZ (h:zGf e k=true):∃ x0 x1 x2,e=.Tuple x0 x1 x2/\k x0 x1 x2=true:=by
 cases e<;>first | exact⟨_,_,_,rfl,h⟩ | exact nof h
noncomputable def zJG (e:Expr)(k:List Expr->Pos->Bool):Bool:=match e with
 | .List x0 x1=>k x0 x1
 | _=>false
theorem zFq (h:zJG e k=true):∃ x0 x1,e=.List x0 x1/\k x0 x1=true:=by
 cases e<;>first | exact⟨_,_,rfl,h⟩ | exact nof h
noncomputable def zBH (e:Expr)(k:Expr->Expr->Pos->Bool):Bool:=match e with
 | .Subscript x0 x1 x2=>k x0 x1 x2
 | _=>false
theorem zA0 (h:zBH e k=true):∃ x0 x1 x2,e=.Subscript x0 x1 x2/\k x0 x1 x2=true:=by
 cases e<;>first | exact⟨_,_,_,rfl,h⟩ | exact nof h
noncomputable def zJE (e:Expr)(k:Option Expr->Option Expr->Option Expr->Pos->Bool):Bool:=match e with
 | .Slice x0 x1 x2 x3=>k x0 x1 x2 x3
 | _=>false
theorem zH4 (h:zJE e k=true):∃ x0 x1 x2 x3,e=.Slice x0 x1 x2 x3/\k x0 x1 x2 x3=true:=by
 cases e<;>first | exact⟨_,_,_,_,rfl,h⟩ | exact nof h
noncomputable def zBr (e:Expr)(k:Expr->List Expr->List Keyword->Pos->Bool):Bool:=match e with
 | .Call x0 x1 x2 x3=>k x0 x1 x2 x3
 | _=>false
theorem zAl (h:zBr e k=true):∃ x0 x1 x2 x3,e=.Call x0 x1 x2 x3/\k x0 x1 x2 x3=true:=by
 cases e<;>first | exact⟨_,_,_,_,rfl,h⟩ | exact nof h
noncomputable def zDC (e:Expr)(k:Expr->List Comprehension->Scope->Pos->Bool):Bool:=match e with
 | .ListComp x0 x1 x2 x3=>k x0 x1 x2 x3
 | _=>false
theorem zCH (h:zDC e k=true):∃ x0 x1 x2 x3,e=.ListComp x0 x1 x2 x3/\k x0 x1 x2 x3=true:=by
 cases e<;>first | exact⟨_,_,_,_,rfl,h⟩ | exact nof h
noncomputable def zAa (e:Expr)(k:Expr->Str->Pos->Bool):Bool:=match e with
 | .Attribute x0 x1 x2=>k x0 x1 x2
 | _=>false
theorem zAK (h:zAa e k=true):∃ x0 x1 x2,e=.Attribute x0 x1 x2/\k x0 x1 x2=true:=by
 cases e<;>first | exact⟨_,_,_,rfl,h⟩ | exact nof h
noncomputable def zNI (e:Expr)(k:List (Option Expr)->List Expr->Pos->Bool):Bool:=match e with
 | .Dict x0 x1 x2=>k x0 x1 x2
 | _=>false
theorem zJI (h:zNI e k=true):∃ x0 x1 x2,e=.Dict x0 x1 x2/\k x0 x1 x2=true:=by
 cases e<;>first | exact⟨_,_,_,rfl,h⟩ | exact nof h
noncomputable def zBk (e:Stmt)(k:List Expr->Expr->Pos->Bool):Bool:=match e with
 | .Assign x0 x1 x2=>k x0 x1 x2
 | _=>false
theorem zA4 (h:zBk e k=true):∃ x0 x1 x2,e=.Assign x0 x1 x2/\k x0 x1 x2=true:=by
 cases e<;>first | exact⟨_,_,_,rfl,h⟩ | exact nof h
noncomputable def zCu (e:Stmt)(k:Expr->Operator->Expr->Pos->Bool):Bool:=match e with
 | .AugAssign x0 x1 x2 x3=>k x0 x1 x2 x3
 | _=>false
theorem zCq (h:zCu e k=true):∃ x0 x1 x2 x3,e=.AugAssign x0 x1 x2 x3/\k x0 x1 x2 x3=true:=by
 cases e<;>first | exact⟨_,_,_,_,rfl,h⟩ | exact nof h
noncomputable def zCs (e:Stmt)(k:Expr->Pos->Bool):Bool:=match e with
 | .Expr x0 x1=>k x0 x1
 | _=>false
theorem zBY (h:zCs e k=true):∃ x0 x1,e=.Expr x0 x1/\k x0 x1=true:=by
 cases e<;>first | exact⟨_,_,rfl,h⟩ | exact nof h
noncomputable def onIf (e:Stmt)(k:Expr->List Stmt->List Stmt->Pos->Bool):Bool:=match e with
 | .If x0 x1 x2 x3=>k x0 x1 x2 x3
 | _=>false
theorem zGg (h:onIf e k=true):∃ x0 x1 x2 x3,e=.If x0 x1 x2 x3/\k x0 x1 x2 x3=true:=by
 cases e<;>first | exact⟨_,_,_,_,rfl,h⟩ | exact nof h
noncomputable def zJD (e:Stmt)(k:Expr->List Stmt->List Stmt->Pos->Bool):Bool:=match e with
 | .While x0 x1 x2 x3=>k x0 x1 x2 x3
 | _=>false
theorem zH3 (h:zJD e k=true):∃ x0 x1 x2 x3,e=.While x0 x1 x2 x3/\k x0 x1 x2 x3=true:=by
 cases e<;>first | exact⟨_,_,_,_,rfl,h⟩ | exact nof h
noncomputable def zOZ (e:Stmt)(k:Expr->Expr->List Stmt->List Stmt->Pos->Bool):Bool:=match e with
 | .For x0 x1 x2 x3 x4=>k x0 x1 x2 x3 x4
 | _=>false
theorem zHM (h:zOZ e k=true):∃ x0 x1 x2 x3 x4,e=.For x0 x1 x2 x3 x4/\k x0 x1 x2 x3 x4=true:=by
 cases e<;>first | exact⟨_,_,_,_,_,rfl,h⟩ | exact nof h
noncomputable def zC2 (e:Stmt)(k:Option Expr->Pos->Bool):Bool:=match e with
 | .Return x0 x1=>k x0 x1
 | _=>false
theorem zCG (h:zC2 e k=true):∃ x0 x1,e=.Return x0 x1/\k x0 x1=true:=by
 cases e<;>first | exact⟨_,_,rfl,h⟩ | exact nof h
noncomputable def onRaise (e:Stmt)(k:Option Expr->Option Expr->Pos->Bool):Bool:=match e with
 | .Raise x0 x1 x2=>k x0 x1 x2
 | _=>false
theorem zH5 (h:onRaise e k=true):∃ x0 x1 x2,e=.Raise x0 x1 x2/\k x0 x1 x2=true:=by
 cases e<;>first | exact⟨_,_,_,rfl,h⟩ | exact nof h
noncomputable def zNH (e:Stmt)(k:Pos->Bool):Bool:=match e with
 | .Pass x0=>k x0
 | _=>false
theorem zJF (h:zNH e k=true):∃ x0,e=.Pass x0/\k x0=true:=by
 cases e<;>first | exact⟨_,rfl,h⟩ | exact nof h
noncomputable def zNK (e:Const)(k:Int->Bool):Bool:=match e with
 | .int x=>k x
 | _=>false
theorem zJL (h:zNK e k=true):∃ x,e=.int x/\k x=true:=by
 cases e<;>first | exact⟨_,rfl,h⟩ | exact nof h
noncomputable def zJM (e:Const)(k:Bool->Bool):Bool:=match e with
 | .bool x=>k x
 | _=>false
theorem zH7 (h:zJM e k=true):∃ x,e=.bool x/\k x=true:=by
 cases e<;>first | exact⟨_,rfl,h⟩ | exact nof h
noncomputable def zNJ (e:Const)(k:Str->Bool):Bool:=match e with
 | .str x=>k x
 | _=>false
theorem zJJ (h:zNJ e k=true):∃ x,e=.str x/\k x=true:=by
 cases e<;>first | exact⟨_,rfl,h⟩ | exact nof h
noncomputable def onEq {O:Type}[DecidableEq O](a b:O)(k:Bool):Bool:=decide (a=b)&&k
theorem zDD {O:Type}[DecidableEq O]{a b:O}{k:Bool}(h:onEq a b k=true):a=b/\k=true:=by
 unfold onEq at h;grind
noncomputable def on0 {O:Type}(l:List O)(k:Bool):Bool:=match l with
 | []=>k
 | _=>false
theorem zBA {O:Type}{l:List O}{k:Bool}(h:on0 l k=true):l=[]/\k=true:=by
 cases l with
 | nil=>exact⟨rfl,h⟩
 | cons _ _=>exact nof h
noncomputable def on1 {O:Type}(l:List O)(k:O->Bool):Bool:=match l with
 | [x0]=>k x0
 | _=>false
theorem zAc {O:Type}{l:List O}{k:O->Bool}(h:on1 l k=true):∃ x0,l=[x0]/\k x0=true:=by
 cases l with
 | nil=>exact nof h
 | cons x0 l =>
  cases l with
  | nil=>exact⟨x0,rfl,h⟩
  | cons _ _=>exact nof h
noncomputable def on2 {O:Type}(l:List O)(k:O->O->Bool):Bool:=match l with
 | [x0,x1]=>k x0 x1
 | _=>false
theorem zDu {O:Type}{l:List O}{k:O->O->Bool}(h:on2 l k=true):∃ x0 x1,l=[x0,x1]/\k x0 x1=true:=by
 cases l with
 | nil=>exact nof h
 | cons x0 l =>
  cases l with
  | nil=>exact nof h
  | cons x1 l =>
   cases l with
   | nil=>exact⟨x0,x1,rfl,h⟩
   | cons _ _=>exact nof h
noncomputable def on3 {O:Type}(l:List O)(k:O->O->O->Bool):Bool:=match l with
 | [x0,x1,x2]=>k x0 x1 x2
 | _=>false
theorem zQu {O:Type}{l:List O}{k:O->O->O->Bool}(h:on3 l k=true):∃ x0 x1 x2,l=[x0,x1,x2]/\k x0 x1 x2=true:=by
 cases l with
 | nil=>exact nof h
 | cons x0 l =>
  cases l with
  | nil=>exact nof h
  | cons x1 l =>
   cases l with
   | nil=>exact nof h
   | cons x2 l =>
    cases l with
    | nil=>exact⟨x0,x1,x2,rfl,h⟩
    | cons _ _=>exact nof h
noncomputable def zJK {O:Type}(l:List O)(k:O->List O->Bool):Bool:=match l with
 | x::xs=>k x xs
 | _=>false
theorem zFr {O:Type}{l:List O}{k:O->List O->Bool}(h:zJK l k=true):∃ x xs,l=x::xs/\k x xs=true:=by
 cases l with
 | nil=>exact nof h
 | cons x xs=>exact⟨x,xs,rfl,h⟩
noncomputable def zFp {O:Type}(o:Option O)(k:O->Bool):Bool:=match o with
 | some x=>k x
 | none=>false
theorem zC1 {O:Type}{o:Option O}{k:O->Bool}(h:zFp o k=true):∃ x,o=some x/\k x=true:=by
 cases o with
 | none=>exact nof h
 | some x=>exact⟨x,rfl,h⟩
noncomputable def zHL {O:Type}(o:Option O)(k:Bool):Bool:=match o with
 | some _=>false
 | none=>k
theorem zDt {O:Type}{o:Option O}{k:Bool}(h:zHL o k=true):o=none/\k=true:=by
 cases o with
 | none=>exact⟨rfl,h⟩
 | some x=>exact nof h
noncomputable def zOY (g:Comprehension)(k:Expr->Expr->List Expr->Int->Bool):Bool:=k g.target g.iter g.ifs g.is_async
theorem zE6 (h:zOY g k=true):∃ a b c d,g=⟨a,b,c,d⟩/\k a b c d=true:=by
 cases g;exact⟨_,_,_,_,rfl,h⟩
noncomputable def cNs (sc:Scope):List Str->List Expr->Bool
 | [],[]=>true
 | y::ys,e::es=>zA1 e (λz _=>decide (z=y)&&glB sc y&&okN y)&&cNs sc ys es
 | _,_=>false
noncomputable def onC (e:Expr)(k:Str->List Expr->Bool):Bool:=zBr e λz1 z2 z3 _=>zA1 z1 λy _=>on0 z3<|k y z2
theorem zBs (h:onC e k=true):∃ y p l pos,e=.Call (.Name y p) l [] pos/\k y l=true:=by
 obtain⟨d,l,f,pos,rfl,a⟩:=zAl h;obtain⟨y,p,rfl,b⟩:=zAO a;obtain⟨rfl,c⟩:=zBA b;exact⟨y,p,l,pos,rfl,c⟩
mutual
noncomputable def cE:E->Scope->List Str->List Str->Expr->Bool
 | .var i,sc,N,bs=>λe=>zA1 e λy _=>decide (N[i]?=some y)&&visB sc y&&okN y
 | .glob _ x,sc,N,bs=>λe=>zA1 e λy _=>decide (x=y)&&glB sc x&&okN x
 | .int i,sc,N,bs=>λe=>zCB e λz1 _ _=>zNK z1 λj=>decide (i=j)
 | .bl b,sc,N,bs=>λe=>zCB e λz1 _ _=>zJM z1 λc=>decide (b=c)
 | .non,sc,N,bs=>λe=>zCB e λz1 _ _=>onEq z1 .none<|(true)
 | .str x,sc,N,bs=>λe=>zCB e λz1 _ _=>zNJ z1 λy=>decide (x=y)
 | .bin op a b,sc,N,bs=>λe=>zJN e λl op' r _=>opB op op'&&cE a sc N bs l&&cE b sc N bs r
 | .neg a,sc,N,bs=>λe=>zDs e λz1 l _=>onEq z1 .USub<|(cE a sc N bs l)
 | .not a,sc,N,bs=>λ_=>false
 | .cmp op a b,sc,N,bs=>λe=>zCY e λl z1 z2 _=>on1 z1 λop'=>on1 z2 λr=>cmB op op'&&!(behindInMarks op r)&&cE a sc N bs l&&cE b sc N bs r
 | .andl es,sc,N,bs=>λe=>zDg e λz1 l _=>onEq z1 .And<|(cEs es sc N bs l)
 | .ite c a b,sc,N,bs=>λe=>zJH e λt l r _=>cE c sc N bs t&&cE a sc N bs l&&cE b sc N bs r
 | .tup es,sc,N,bs=>λe=>zGf e λl _ _=>cEs es sc N bs l
 | .lst es,sc,N,bs=>λe=>zJG e λl _=>cEs es sc N bs l
 | .ix a i,sc,N,bs=>λe=>zBH e λl r _=>zCv r&&cE a sc N bs l&&cE i sc N bs r
 | .sl a lo hi,sc,N,bs=>λe=>zBH e λl z1 _=>zJE z1 λx y z2 _=>zHL z2<|(cE a sc N bs l&&cO lo sc N bs x&&cO hi sc N bs y)
 | .call _ f es,sc,N,bs=>λe=>onC e λy l=>(decide (f=y)&&glB sc f&&okN f&&cEs es sc N bs l)
 | .len a,sc,N,bs=>λe=>onC e λy z2=>on1 z2 λl=>(decide (y = "len")&&bltB sc bs "len"&&zAX l&&cE a sc N bs l)
 | .callv i a,sc,N,bs=>λe=>onC e λy z2=>on1 z2 λx=>(decide (N[i]?=some y)&&visB sc y&&okN y&&zAX x&&cE a sc N bs x)
 | .fld a f,sc,N,bs=>λe=>zAa e λl m _=>decide (m=f)&&zQw l&&cE a sc N bs l
 | .abs a,sc,N,bs=>λe=>onC e λy z2=>on1 z2 λl=>(decide (y = "abs")&&bltB sc bs "abs"&&zAX l&&cE a sc N bs l)
 | .list a,sc,N,bs=>λe=>onC e λy z2=>on1 z2 λl=>(decide (y = "list")&&bltB sc bs "list"&&zAX l&&cE a sc N bs l)
 | .max a b,sc,N,bs=>λe=>onC e λy z2=>on2 z2 λl r=>(decide (y = "max")&&bltB sc bs "max"&&zAX l&&zAX r&&cE a sc N bs l&&cE b sc N bs r)
 | .chn op op' a b c,sc,N,bs=>λe=>zCY e λl z1 z2 _=>on2 z1 λo1 o2=>on2 z2 λm r=>cmB op o1&&cmB op' o2&&chB op&&chB op'&&cE a sc N bs l&&cE b sc N bs m&&cE c sc N bs r
 | .lrev a,sc,N,bs=>λe=>zBr e λz1 z2 z3 _=>zA1 z1 λy _=>on1 z2 λz4=>zBr z4 λz5 z6 z7 _=>zA1 z5 λz _=>on1 z6 λl=>on0 z7<|on0 z3<|(decide (y = "list")&&decide (z = "reversed")&&bltB sc bs "list"&&bltB sc bs "reversed"&&zAX l&&cE a sc N bs l)
 | .tupl a,sc,N,bs=>λe=>onC e λy z2=>on1 z2 λl=>(decide (y = "tuple")&&bltB sc bs "tuple"&&zAX l&&cE a sc N bs l)
 | .comp1 n ms x src c el,sc,N,bs=>λe=>zDC e λv z1 scope _=>on1 z1 λz2=>zOY z2 λz3 t ifs a=>zA1 z3 λy _=>decide (x=y)&&decide (a=0)&&decide (n=N.length)&&cscB sc scope&&zLj scope N ms&&decide ((mask (noN N) ms N++[x]).Nodup)&&locB (relS sc scope) x&&ownB scope x&&cI src sc N bs t&&cC c (relS sc scope) (mask (noN N) ms N++[x]) bs ifs&&cE el (relS sc scope) (mask (noN N) ms N++[x]) bs v
 | .lzip a b,sc,N,bs=>λe=>zBr e λz1 z2 z3 _=>zA1 z1 λy _=>on1 z2 λz4=>zBr z4 λz5 z6 z7 _=>zA1 z5 λz _=>on2 z6 λl r=>on0 z7<|on0 z3<|(decide (y = "list")&&decide (z = "zip")&&bltB sc bs "list"&&bltB sc bs "zip"&&zAX l&&zAX r&&cE a sc N bs l&&cE b sc N bs r)
 | .it _,sc,N,bs=>λ_=>false
 | .r1 _,sc,N,bs=>λ_=>false
 | .r2 _ _,sc,N,bs=>λ_=>false
 | .r3 _ _ _,sc,N,bs=>λ_=>false
 | .nil,sc,N,bs=>λ_=>false
 | .cons _ _,sc,N,bs=>λ_=>false
noncomputable def cI:E->Scope->List Str->List Str->Expr->Bool
 | .it e,sc,N,bs=>λx=>zJP x&&cE e sc N bs x
 | .r1 a,sc,N,bs=>λx=>onC x λy z2=>on1 z2 λl=>(decide (y = "range")&&bltB sc bs "range"&&zAX l&&cE a sc N bs l)
 | .r2 a b,sc,N,bs=>λx=>onC x λy z2=>on2 z2 λl r=>(decide (y = "range")&&bltB sc bs "range"&&zAX l&&zAX r&&cE a sc N bs l&&cE b sc N bs r)
 | .r3 a b c,sc,N,bs=>λx=>onC x λy z2=>on3 z2 λl r q=>(decide (y = "range")&&bltB sc bs "range"&&zAX l&&zAX r&&zAX q&&cE a sc N bs l&&cE b sc N bs r&&cE c sc N bs q)
 | _,_,_,_=>λ_=>false
noncomputable def cC:E->Scope->List Str->List Str->List Expr->Bool
 | .nil,sc,N,bs=>λl=>l.isEmpty
 | .cons c _,sc,N,bs=>λl=>match l with
  | [x]=>cE c sc N bs x
  | _=>false
 | _,_,_,_=>λ_=>false
noncomputable def cEs:E->Scope->List Str->List Str->List Expr->Bool
 | .nil,sc,N,bs=>λl=>l.isEmpty
 | .cons e es,sc,N,bs=>λl=>match l with
  | x::xs=>zAX x&&cE e sc N bs x&&cEs es sc N bs xs
  | []=>false
 | _,_,_,_=>λ_=>false
noncomputable def cO:E->Scope->List Str->List Str->Option Expr->Bool
 | .cons e _,sc,N,bs=>λo=>match o with
  | some x=>cE e sc N bs x
  | none=>false
 | .nil,sc,N,bs=>λo=>o.isNone
 | _,_,_,_=>λ_=>false
end
noncomputable def zOo:E->Bool
 | .comp1 _ _ _ _ _ _=>true
 | _=>false
noncomputable def varB (sc:Scope)(N:List Str)(i:Nat)(x:Str):Bool:=decide (N[i]?=some x)&&locB sc x&&okN x
mutual
noncomputable def cS (sc:Scope)(N bs:List Str):S->Stmt->Bool
 | .set i e=>λs=>zBk s λz1 v _=>on1 z1 λz2=>zA1 z2 λy _=>varB sc N i y&&zDw v&&cE e sc N bs v
 | .setC i e=>λs=>zBk s λz1 v _=>on1 z1 λz2=>zA1 z2 λy _=>zOo e&&varB sc N i y&&cE e sc N bs v
 | .app i e=>λs=>zCs s λz1 _=>zBr z1 λz2 z3 z4 cpos=>zAa z2 λz5 m apos=>zA1 z5 λy _=>on1 z3 λv=>on0 z4<|(decide (m = "append")&&varB sc N i y&&(apos.endLine==cpos.line)&&zAX v&&cE e sc N bs v)
 | .aug op i e=>λs=>zCu s λz1 op' v _=>zA1 z1 λy _=>opB op op'&&varB sc N i y&&zDw v&&cE e sc N bs v
 | .ext i e=>λs=>zCs s λz1 _=>zBr z1 λz2 z3 z4 cpos=>zAa z2 λz5 m apos=>zA1 z5 λy _=>on1 z3 λv=>on0 z4<|(decide (m = "extend")&&varB sc N i y&&(apos.endLine==cpos.line)&&zAX v&&cE e sc N bs v)
 | .ife c a b=>λs=>onIf s λt l r _=>cE c sc N bs t&&cSs sc N bs a l&&cSs sc N bs b r
 | .whl c b=>λs=>zJD s λt l z1 _=>on0 z1<|(cE c sc N bs t&&cSs sc N bs b l)
 | .for1 i it b=>λs=>zOZ s λz1 t l z2 _=>zA1 z1 λy _=>on0 z2<|(varB sc N i y&&cI it sc N bs t&&cSs sc N bs b l)
 | .ret e=>λs=>zC2 s λz1 _=>zFp z1 λv=>cE e sc N bs v
 | .retOwn i=>λs=>zC2 s λz1 _=>zFp z1 λz2=>zA1 z2 λy _=>varB sc N i y
 | .pass=>λs=>zNH s λ_=>true
 | .never=>λ_=>true
 | .rse c m=>λ_=>false
 | .nil=>λ_=>false
 | .cons _ _=>λ_=>false
 | .frz _ _=>λ_=>false
noncomputable def cSs (sc:Scope)(N bs:List Str):S->List Stmt->Bool
 | .nil=>λl=>l.isEmpty
 | .cons a b=>λl=>match l with
  | s::r=>cS sc N bs a s&&cSs sc N bs b r
  | []=>false
 | .frz _ r=>λl=>cSs sc N bs r l
 | _=>λ_=>false
end
end DL
end
section
namespace DL
open PySem Spec PyProof.Rows L2
def zEL (K:W.Frag)(mg:Str->Option Value)(sub:List (Str×Str×Bool))(y:Str):Prop :=
 ∃ u,((∃ Y,u=.ref Y/\mg y=some (.ref Y))\/(mg y=none/\y = "ValueError"/\u=.type "ValueError"))/\∀ c b,(c,y,b)∈sub->∀ C,zAp K c C->XCls K C/\W.kitOne K (.ref C) u=some b/\(b=true->W.exmOne K (.ref C) u=some true)
structure GOk (P:Program)(w:World)(K:W.Frag)(mg:Str->Option Value)(base:Heap)(k:Nat)(J:Gm)(bs:List Str):Prop where
 fn:∀ x F,(x,F)∈J.fns->∃ f fd ps,FnOk P w K mg base CX0 k f fd ps (spD K F)/\mg x=some (.ref f)/\W.keepIn K (.ref f)=true/\zBJ K fd ps []
 cs:∀ x d,(x,d)∈J.cs->∃ u v,mg x=some u/\RelV v u/\Den K (λ_=>none) d v
 bt:∀ x∈bs,mg x=none
 xf:True
 sb:∀ p∈J.sub,zEL K mg J.sub p.2.1
 rs:∀ c∈J.rs,∃ C,zAp K c C/\mg c=some (.ref C)/\W.excIn K C bmV "ValueError.__new__"=true
 lm:∀ (j:Nat) L F,J.lm[j]?=some (L,F)->zC9 P w K mg base k L F
 ob:∀ p∈J.ob,ObOk K mg p
theorem zDn (h:zB0 J y c=some b):(c,y,b)∈J.sub:=by
 unfold zB0 at h;obtain⟨p,a,d⟩:=yj.mp h;have m:=List.mem_of_find?_eq_some a;have q:=List.find?_some a;rw[yx,qy,qy] at q;obtain⟨f,e⟩:=q;obtain⟨g,j,i⟩:=p;cases f;cases e;cases d;exact m
structure XOk (X:Cx)(k:Nat)(J:Gm)(bs:List Str):Prop where
 g:GOk X.prog X.w X.K X.mg X.base k J bs
 room:Room k X.A
 calm:X.calm=true
 nd:X.N.Nodup
 own:PassesOwn (model X.prog X.w) X.A X.env X.xe
theorem XOk.comp (o:XOk X k J bs)(a:N.Nodup):XOk (zAb X N scope s H fp) k J bs:=⟨o.g,o.room,o.calm,a,PassesOwn.never⟩
theorem zAB (h:zAX e=true):starEach (e::es) env=(false,eval e env)::starEach es env:=by
 cases e<;>first | rfl | cases h
theorem zEa (h:zCv e=true):zFW e:=by
 cases e<;>first | intro o i;rfl | cases h
theorem zBu (h:zDw e=true):swapsWith e t n env=pure false:=by
 cases e<;>first | rfl | cases h
theorem zEb (h:zJP e=true):∀ x,foldedSetIterable e env x=pure x:=by
 intro x;cases e<;>first | rfl | cases h
theorem zEq (h:visB sc x=true):Vis sc x:=by
 unfold visB at h;split at h
 .rename_i e;exact .inl e
 .rename_i e;exact .inr (.inl e)
 .rename_i e;exact .inr (.inr e)
 .cases h
theorem zDy (h:locB sc x=true):Loc sc x:=by
 unfold locB at h;split at h
 .rename_i e;exact .inl e
 .rename_i e;exact .inr e
 .cases h
theorem zCb (h:glB X.env.scope x=true):Gl X x:=by
 unfold glB at h;split at h
 .assumption
 .grind
theorem zBt (h:okN x=true):(x==("__debug__":Str))=false/\(x==("__classdict__":Str))=false:=by
 unfold okN at h
 simp_all
theorem zBC (o:XOk X k J bs)(h:bltB X.env.scope bs x=true):Gl X x/\X.mg x=none:=by
 unfold bltB at h
 simp_all
 exact⟨zCb h.1,o.g.bt x (by simp_all)⟩
theorem zB2 (o:XOk X k J bs):X.A.units+64 < cLine:=o.room.units
theorem zBK {X:Cx}:∀ {es:List Expr},(∀ e∈es,zAX e=true)->∀ pos,(backTo pos (starEach es X.env)).any (·.1)=false
 | [],_,_=>rfl
 | e::es,h,pos=>by
  rw[zAB (h e xy)];show (false||(backTo pos (starEach es X.env)).any (·.1))=false;rw[zBK (λe z=>h e (qY _ z)) pos]
  rfl
theorem zKx :∀ {es:List Expr},cEs a sc N bs es=true->∀ e∈es,zAX e=true:=by
 induction a with
 | nil =>
  intro es h;cases es with
  | nil=>intro e z;exact absurd z (by simp)
  | cons x d=>exact nomatch show false=true from h
 | cons a b _ c =>
  intro es h;cases es with
  | nil=>intro e z;exact absurd z (by simp)
  | cons x d =>
   simp only[cEs,yx] at h;intro e z;rcases mem_cons.mp z with rfl | z
   .simp_all
   .exact c h.2 e z
 | _=>intro es h;exact zzf h
end DL
namespace DL
open PySem Spec PyProof.Rows L2
section
variable {X:Cx}
theorem zDK (h:∀ G,f G=none):GE X e f:=λpins s σ H Q I a=>by
 obtain⟨S,G,z,b,e,c⟩:=a
 simp_all
theorem zLD (h:∀ x y,o x y=none)(G:Dst):two f g o G=none:=by
 unfold two
 simp_all
def zQT (K:W.Frag):R2:=λx y H Q=>∃ l b xs zs,x=.ref l/\y=.ref b/\SqL K H l xs/\SqL K H b zs/\xs.length+zs.length<=sizeLine/\∀ p,H p=none->Q (.ref p) (upd H p (.lst (xs++zs)))
theorem zOX:OpR X (binaryOp .Add) (zQT X.K):=by
 intro j s σ H x y v u Q I w A h;obtain⟨l,b,D,C,rfl,rfl,o,B,z,q⟩:=h;cases w;cases A;obtain⟨c,i,⟨⟨t,r,m,sl⟩,n,e1,e2,e3,e4⟩,z1⟩:=I.list o;obtain⟨a,d,⟨⟨k,f,e,g⟩,n2,e1',e2',e3',e4'⟩,z2⟩:=I.list B;subst e2 e4 e2' e4';refine concat_meets ⟨_,e1,rfl⟩ ⟨_,e1',rfl⟩ noFill_list_add seq_list_add F.slot_list_add F.entry_list_add (F.args_list_add_2 _ _) (zFz l _ n r sl b _ n2 f g (by rw[xX,xX,<- i.length,<- d.length];exact z)) ⟨e1,e1',?_⟩;have p:c.toArray++a.toArray=(c++a).toArray:=by simp
 rw[p];exact⟨.ref _,_,I.lnew (i.append d) (by simp_all),rfl,q _ I.fresh⟩
theorem zOR:OpD X.K (λx y H Q=>(rI0 (λi j=>.int (i+j)) x y H Q\/zQT X.K x y H Q)\/zQS X.K x y H Q) (binD .Add):=by
 intro S H x y z t u Q g e o m c;unfold binD at e;dsimp only at e;split at e
 .cases e;exact .inl (.inl ⟨_,_,o.int,m.int,c _ H (Same.refl _) (.int _)⟩)
 .rename_i k r;by_cases hl:k.length+r.length<=10000
  .rw [if_pos hl] at e;cases e;obtain⟨a,h,rfl,s,d⟩:=o.lst;obtain⟨b,l,rfl,q,f⟩:=m.lst;exact .inl (.inr ⟨a,b,h,l,rfl,rfl,s,q,by rw[<- d.length,<- f.length];exact zCy hl,λp n=>c _ _ (zAU n _) (.lstNew (Same.refl _) g n (d.append f))⟩)
  .simp_all
 .rename_i x k y r;by_cases hl:(x::k).length+(y::r).length<=10000
  .rw [if_pos hl] at e;cases e;obtain⟨a,h,rfl,s,d⟩:=o.tup;obtain⟨b,l,rfl,q,f⟩:=m.tup;exact .inr ⟨a,b,h,l,rfl,rfl,s,q,(λz=>by rw[z] at d;have:=d.length;simp at this),by rw[<- d.length,<- f.length];exact zCy hl,λz=>absurd z (λz=>by rw[z] at f;have:=f.length;simp at this),λ_ p n=>c _ _ (zAU n _) (.tupNew g n (d.append f))⟩
  .rw [if_neg hl] at e;cases e
 .cases e
theorem zKz (h:i.natAbs < 2^n):Builtin.Int.intBits i<=n:=by
 unfold Builtin.Int.intBits;split
 .exact zero_le _
 .rename_i b;have a:i.natAbs≠0:=by
   intro z;apply b;have:i=0:=by omega
   subst this;rfl
  exact(Nat.log2_lt a).mpr h
theorem zQx (h:j.natAbs < 2^64):IntMulOk i j:=IntMulOk.of_right (zKz h)
theorem zQy (h:i.natAbs < 2^64):IntMulOk i j:=IntMulOk.of_left (zKz h)
theorem zOO:OpD X.K (λx y H Q=>rI IntMulOk (λi j=>.int (i*j)) x y H Q\/rRep X.K x y H Q) (binD .Mult):=by
 intro S H x y z p o Q b e f d c;unfold binD at e;dsimp only at e;split at e
 .unfold mulD at e;split at e
  .rename_i h;cases e;exact .inl ⟨_,_,f.int,d.int,h.elim zQy zQx,c _ H (Same.refl _) (.int _)⟩
  .cases e
 .rename_i l j;by_cases hl:0<=j/\j<=10000/\l.length*j.toNat<=10000
  .rw [if_pos hl] at e;cases e;obtain⟨a,m,rfl,k,g⟩:=f.lst;exact .inr ⟨a,m,j,rfl,d.int,k,hl.1,hl.2.1,by rw[<- g.length];exact hl.2.2,λp n=>c _ _ (zAU n _) (.lstNew (Same.refl _) b n (zKj g _))⟩
  .rw [if_neg hl] at e;cases e
 .cases e
theorem zRs (d:GE X a f)(c:GE X b g):GE X (.BinOp a op b pos) (two f g (binD op)):=by
  cases op with
  | Add=>exact zIM ((zQt.or zOX).or (by intro k s σ H x y v u Q I p n h;obtain⟨a,b,C,D,rfl,rfl,d,c,t,i,B,A⟩:=h;cases p;cases n;obtain⟨r,r1,l,_⟩:=I.tuple d;obtain⟨j,r2,m,_⟩:=I.tuple c;refine HT.zPr l m (λz=>t (r1.nil_iff.mp z)) (λz=>⟨.ref a,H,I,rfl,B (r2.nil_iff.mp z)⟩) (λz=>?_) (by rw[<- r1.length,<- r2.length];exact i);refine⟨.ref s.heap.objs.size,_,I.laid (λb ob q=>get?_push_of_some _ q) (le_refl _) ?_,rfl,A (λw=>z (r2.nil_iff.mpr w)) _ (I.hok.fresh (le_refl _))⟩;exact⟨by rw[qj];exact i,_,r1.append r2,IsTup.new _ _⟩)) zOR d c
  | Sub=>exact zIM (opI0 λ_ _ _ _ _ _ _ q=>sub_int q) (zLd λx y z e=>by
      unfold binD at e;dsimp only at e;split at e
      . cases e;exact⟨_,_,rfl,rfl,rfl⟩
      . cases e) d c
  | Mult=>exact zIM (zOU.or zQj) zOO d c
  | FloorDiv=>exact zIM zLe (zGe λx y z e=>by
      unfold binD at e;dsimp only at e;split at e
      . unfold zMM at e;split at e
        . cases e
        . rename_i h;cases e;exact⟨_,_,rfl,rfl,h,rfl⟩
      . cases e) d c
  | Mod=>exact zIM (opI λ_ _ _ _ _ _ _ o q=>mod_int' o q) (zGe λx y z e=>by
      unfold binD at e;dsimp only at e;split at e
      . split at e
        . cases e
        . rename_i h;cases e;exact⟨_,_,rfl,rfl,h,rfl⟩
      . cases e) d c
  | Pow=>exact zIM zQk (zGe λx y z e=>by
      unfold binD at e;dsimp only at e;split at e
      . split at e
        . rename_i h;cases e;exact⟨_,_,rfl,rfl,h,rfl⟩
        . cases e
      . cases e) d c
  | _=>exact zDK (zLD λ_ _=>rfl)
theorem zB7 {k:Int->Int->Bool}(h:cmpD op=λx y=>match x,y with
    | .int i,.int j=>some (.bl (k i j),.cl)
    | _,_=>none):∀ x y z,cmpD op x y=some z->∃ i j,x=.int i/\y=.int j/\z=(.bl (k i j),.cl):=by
  intro x y z e;rw[h] at e;dsimp only at e;split at e
  . cases e;exact⟨_,_,rfl,rfl,rfl⟩
  . cases e
def rInI (K:W.Frag)(n:Bool):R2:=λx y H Q=>∃ (i:Int) (b:Addr) (is:List Int),x=.int i/\y=.ref b/\SqL K H b (is.map V.int)/\Q (.bl (n != is.contains i)) H
noncomputable def eqI (i:Int)(v:Value):Bool:=match v with
 | .int j _=>j==i
 | _=>false
theorem zFU :∀ {is:List Int} {its:List Value},Vals (is.map V.int) its->its.any (eqI i)=is.contains i
 | [],_,h=>by cases h;rfl
 | j::is,_,h=>by
  cases h with
  | cons r t =>
   obtain⟨tk,rfl⟩:=r;rw[any_cons,zFU t,List.contains_cons];show (j==i||_)=(i==j||_);rw[Bool.beq_comm]
theorem zHp :∀ {is:List Int} {its:List Value},Vals (is.map V.int) its->v∈its->∃ j t,v=.int j t
 | [],_,h,m=>by cases h;cases m
 | j::is,_,h,m=>by
  cases h with
  | cons r t =>
   obtain⟨tk,rfl⟩:=r;rcases mem_cons.mp m with rfl | m
   .exact ⟨_,_,rfl⟩
   .exact zHp t m
theorem zNG:OpR X (compareOp .In) (rInI X.K false)/\OpR X (compareOp .NotIn) (rInI X.K true):=by
 refine⟨λpins s σ H x y v u Q I d e h=>?_,λpins s σ H x y v u Q I d e h=>?_⟩ <;>
 .obtain ⟨i,b,n,rfl,rfl,g,q⟩:=h;obtain⟨t,rfl⟩:=d;cases (show u=Value.ref b from e);obtain⟨c,r,f,k⟩:=I.list g;have a:∀ y,y∈c.toArray->SeqAt.EqAt X.A.in1 s y (.int i t) (eqI i y):=λy m=>by
   obtain⟨j,l,rfl⟩:=zHp r (by simpa using m);exact λprog w E Q q=>wpAny_eqBool_int q
  first
   | exact SeqAt.in_listAt _ f.isList a ⟨.bl _,H,I,rfl,by simpa [zFU r] using q⟩
   | exact SeqAt.notIn_listAt _ f.isList a ⟨.bl _,H,I,rfl,by simpa [zFU r] using q⟩
theorem zJC :OpD X.K (rInI X.K n) (inD n):=by
 intro S H x y z o k Q _ e b g c;unfold inD at e;split at e
 .rename_i i j;obtain⟨l,h,rfl⟩:=yj.mp e;obtain⟨a,m,rfl,d,f⟩:=g.lst;have:=zHY h f;subst this;exact⟨i,a,l,b.int,rfl,d,c _ H (Same.refl _) (by show Den _ _ _ _;rw[Den])⟩
 .cases e
theorem zHk (m:X.A.units+64 < cLine):∃ r,OpR X (compareOp op) r/\OpD X.K r (cmpD op):=by
 cases op with
 | Lt=>exact⟨_,zQn,zBb (zB7 rfl)⟩
 | LtE=>exact⟨_,zQo,zBb (zB7 rfl)⟩
 | Gt=>exact⟨_,zQq,zBb (zB7 rfl)⟩
 | GtE=>exact⟨_,zQr,zBb (zB7 rfl)⟩
 | Eq=>exact⟨_,(by intro c s σ H x y v u Q I g f h;obtain⟨d,e,i,j,⟨b,a,l⟩,q⟩:=h;obtain⟨k,r1⟩:=zCz I i g b;obtain⟨bs,r2⟩:=zCz I j f a;exact SeqAt.rcAt_reads r1 r2 b a (by omega) X.prog X.w _ _ ⟨.bl _,H,I,rfl,q⟩),zNE⟩
 | NotEq=>exact⟨_,(by intro c s σ H x y v u Q I g f h;obtain⟨d,e,i,j,⟨b,a,l⟩,q⟩:=h;obtain⟨k,r1⟩:=zCz I i g b;obtain⟨bs,r2⟩:=zCz I j f a;exact SeqAt.rcNeAt_reads r1 r2 b a (by omega) X.prog X.w _ _ ⟨.bl _,H,I,rfl,q⟩),zNE⟩
 | Is=>exact⟨_,zQp,zOQ⟩
 | IsNot=>exact⟨_,zOT,zLc⟩
 | In=>exact⟨_,zNG.1,zJC⟩
 | NotIn=>exact⟨_,zNG.2,zJC⟩
theorem zO2 (h:∀ G,f G=none):GT X e (asB f):=λpins s σ H Q I a=>by
 obtain⟨S,G,z,b,e,c⟩:=a;obtain _:=zCR e
 simp_all
theorem zKA (j:X.A.units+64 < cLine)(e:behindInMarks op b=false)(h:GE X a f)(d:GE X b g):GE X (.Compare a [op] [b] pos) (two f g (cmpD op))/\GT X (.Compare a [op] [b] pos) (asB (two f g (cmpD op))):=by
 obtain⟨r,c,i⟩:=zHk (X:=X) (op:=op) j;exact⟨((zI8 c h d e).imp λ_ _ _ q=>zHJ i q),((zGZ c h d e).imp λ_ _ _ q=>zHJ i (zGt q))⟩
theorem zA6 (h:GE X e f)(a:∀ whole,isTrue e X.env whole=(do let v<-whole;standAt e.pos;holding [v] (truthy v))):GE X e f/\GT X e (asB f):=⟨h,zJx h a⟩
theorem nh {O:Type}{c:O->Bool}{p:O->Prop}(n:∀ x,c x=false:=by exact λ_=>rfl):∀ x,c x=true->p x:=by grind
structure Good (X:Cx)(J:Gm)(bs:List Str)(a:E):Prop where
 e:∀ e,cE a X.env.scope X.N bs e=true->GE X e (evE J a)/\GT X e (asB (evE J a)):=by exact nh
 es:∀ es,cEs a X.env.scope X.N bs es=true->(GA X es (evEs J a)/\GAL X es (evLs J a))/\(es≠[]->∀ pos,(GE X (.BoolOp .And es pos) (evAnd J a)/\GW X (.BoolOp .And es pos) (asB (evAnd J a)))/\GE X (.BoolOp .Or es pos) (evOr J a)/\GW X (.BoolOp .Or es pos) (asB (evOr J a))):=by exact nh
 o:∀ oe,cO a X.env.scope X.N bs oe=true->GO X oe (evO J a):=by exact nh
 i:∀ it,cI a X.env.scope X.N bs it=true->(∀ tg,GI X tg it (evI J a))/\∀ x,foldedSetIterable it X.env x=pure x:=by exact nh
 c:∀ ifs,cC a X.env.scope X.N bs ifs=true->GCs X ifs (evC J a):=by exact nh
structure zSS (X:Cx)(tg iter elt:Expr)(ifs:List Expr)(scope:Scope)(ms:List Nat)(xs:List Str)(f:Dst->Option (List D))(t:D->Dst->Option Dst)(c:Dst->Option Bool)(e:Dst->Option R):Prop where
 hi:GI X tg iter f
 hs:∀ x,foldedSetIterable iter X.env x=pure x
 cs:zCW X.env.scope scope
 hm:∀ (i:Nat) x,X.N[i]?=some x->ownB scope x=true->i∈ms
 hg:∀ s H fp,GG (zAb X (mask (noN X.N) ms X.N++xs) scope s H fp) tg t
 hc:∀ s H fp,GCs (zAb X (mask (noN X.N) ms X.N++xs) scope s H fp) ifs c
 he:∀ s H fp,GE (zAb X (mask (noN X.N) ms X.N++xs) scope s H fp) elt e
theorem zG1 (h:cscB sc scope=true):zCW sc scope:=by
 unfold cscB at h;simp only[yx,qy,beq_iff_eq,all_eq_true] at h;obtain⟨⟨c,a⟩,h3⟩:=h;refine⟨c,a,λx b e=>?_⟩;have q:=h3 x b
 simp_all
theorem zE9 (h:zLj scope N ms=true):∀ (i:Nat) x,N[i]?=some x->ownB scope x=true->i∈ms:=λi x e o=>by
 unfold zLj at h;rw[all_eq_true] at h;have q:=h i (mem_range.mpr (zzg e).1)
 simp_all
theorem zKM (h:xs[k]?=some x):(mask (noN N) ms N++xs)[N.length+k]?=some x:=by
 rw[getElem?_append_right (by rw[zBF];omega),zBF]
 simp_all
end
end DL
end
section
namespace DL
open PySem Spec PyProof.Rows L2
section
variable {X:Cx}{k:Nat}{J:Gm}{bs:List Str}
theorem zS8 (o:XOk X k J bs)(j:Gl X f)(h:(f==("__debug__":Str))=false)(s:GA X es g)(b:∀ e∈es,zAX e=true)(u:es=[]->∀ G,g G=some []):GE X (.Call (.Name f p) es [] pos) (fnD J n f g):=by
 cases q:J.fns[n]? with
 | none=>exact zDK λG=>by unfold fnD;rw[q]
 | some t =>
  obtain⟨y,F⟩:=t;by_cases e:y=f
  .subst e;have v:fnD J n y g=zIU F g:=by
    funext G;unfold fnD
    simp_all
   rw[v];obtain⟨a,C,A,m,l,d,i⟩:=o.g.fn y F (mem_of_getElem? q);cases es with
   | nil =>
    rw[(funext (u rfl))];have r:=o.room;refine(zLa m r j l d i .nil zH2 h).imp fun σ H Q q=>?_
    obtain⟨S,G,z,w,e,c⟩:=zHm q;cases e;exact c [] H (Same.refl _) .nil
   | cons x B=>exact ((zI9 m o.room j l d i .nil zH2 s h (zAB (b x xy)) ((zBK λe z=>b e (qY _ z)) pos)).imp λ_ _ _ q=>zHm q)
  .exact zDK λG=>by
    unfold fnD
    simp_all
theorem zS7 (o:XOk X k J bs)(g:Gl X x)(a:(x==("__debug__":Str))=false):GE X (.Name x pos) (zGA J n x):=by
 cases q:J.cs[n]? with
 | none=>exact zDK λG=>by unfold zGA;rw[q]
 | some f =>
  obtain⟨y,d⟩:=f;by_cases e:y=x
  .subst e;have b:zGA J n y=λ_=>some (d,.cl):=by
    unfold zGA
    simp_all
   rw[b];obtain⟨u,v,c,h,i⟩:=o.g.cs y d (mem_of_getElem? q);exact zPO g c h i a
  .exact zDK λG=>by
    unfold zGA
    simp_all
theorem zPt (h:cEs a sc N bs []=true)(G:Dst):evEs J a G=some []:=by
 cases a<;>first | rfl | exact nof h
theorem zHj (o:XOk X k J bs)(j:Good X J bs src)(p:∀ {X':Cx},XOk X' k J bs->Good X' J bs c)(m:∀ {X':Cx},XOk X' k J bs->Good X' J bs el)(h:cE (.comp1 n ms x src c el) X.env.scope X.N bs e=true) :
  ∃ tg iter elt ifs scope pos,e=.ListComp elt [⟨tg,iter,ifs,0⟩] scope pos/\zSS X tg iter elt ifs scope ms [x] (evI J src) (tg1 n) (evC J c) (evE J el):=by
 obtain⟨v,r,scope,pos,rfl,i⟩:=zCH h;obtain⟨q,rfl,d⟩:=zAc i;obtain⟨u,t,ifs,a,rfl,f⟩:=zE6 d;obtain⟨y,w,rfl,g⟩:=zAO f;replace h:=g;simp at h;obtain⟨⟨⟨⟨⟨⟨⟨⟨⟨⟨rfl,rfl⟩,rfl⟩,h4⟩,h5⟩,h6⟩,h7⟩,h8⟩,h9⟩,h10⟩,h11⟩:=h;have l:∀ s H b,XOk (zAb X (mask (noN X.N) ms X.N++[x]) scope s H b) k J bs:=λs H b=>o.comp h6
 refine⟨_,_,_,_,_,_,rfl,⟨(j.i _ h9).1 _,(j.i _ h9).2,zG1 h4,zE9 h5,λs H b=>?_,λs H b=>(p (l s H b)).c _ h10,λs H b=>((m (l s H b)).e _ h11).1⟩⟩;exact zJ7 h6 (zKM (k:=0) rfl) (zDy h7) (.inl h8)
theorem zNQ (g:GOk X.prog X.w X.K X.mg X.base k J bs)(f:Gl X y)(l:(y==("__debug__":Str))=false)(o:zEe J y=true):∃ u vy,(∀ u',RelV vy u'->u'=u)/\(∀ p2,PE X (.Name y p2) (tC vy)) /\
  ∀ c b,zB0 J y c=some b->∀ C,zAp X.K c C->XCls X.K C/\W.kitOne X.K (.ref C) u=some b:=by
 obtain⟨p,n,i⟩:=List.any_eq_true.mp o;obtain⟨u,h,d⟩:=g.sb p n;rw[of_decide_eq_true i] at h d;have a:∀ c b,zB0 J y c=some b->∀ C,zAp X.K c C->XCls X.K C/\W.kitOne X.K (.ref C) u=some b:=λc b e C q=>⟨(d c b (zDn e) C q).1,(d c b (zDn e) C q).2.1⟩
 rcases h with ⟨Y,rfl,j⟩ | ⟨m,rfl,rfl⟩
 .exact ⟨_,.ref Y,λu' r=>r,λp2=>zI7 f j rfl l,a⟩
 .exact ⟨_,.ty "ValueError",λu' r=>r,λp2=>zOK f m (by decide +kernel) rfl (by decide) (by decide),a⟩
theorem zIB (h:zQw e=true):attributeBase e f X.env (eval e X.env)=eval e X.env:=by
 cases e with
 | Name _ _=>rfl
 | _=>exact nof h
theorem zNR (g:GOk X.prog X.w X.K X.mg X.base k J bs):∀ {ys:List Str} {es:List Expr},cNs X.env.scope ys es=true->(ys.all (zEe J))=true->∃ vs us,ClsT X (zB0 J) ys es vs us
 | [],[],_,_=>⟨[],[],.nil⟩
 | [],_::_,h,_=>(zzf h)
 | _::_,[],h,_=>(zzf h)
 | y::ys,e::es,h,ha=>by
  replace h:(zA1 e (λz _=>decide (z=y)&&glB X.env.scope y&&okN y)&&cNs X.env.scope ys es)=true:=h;rw[List.all_cons,yx] at ha;rw[yx] at h;obtain⟨z,p,rfl,hq⟩:=zAO h.1;simp only[yx,qy] at hq;obtain⟨⟨rfl,h3⟩,h4⟩:=hq;obtain⟨u,vy,ru,hv,hs⟩:=zNQ g (zCb h3) (zBt h4).1 ha.1;obtain⟨vs,us,hr⟩:=zNR g h.2 ha.2;exact⟨_,_,.cons ru (hv p) hs hr⟩
theorem zCr (o:XOk X k J bs)(a:E):Good X J bs a:=by
 have p:=zB2 o
 induction a generalizing X with
 | var i =>
  refine { e:=λe h=>?_ };obtain⟨_,_,rfl,d⟩:=zAO h;replace h:=d;simp only[yx,qy] at h;obtain⟨⟨v,A⟩,h4⟩:=h;obtain⟨n1,n2⟩:=zBt h4;exact zA6 (zHZ v (zEq A) n1 n2) λ_=>rfl
 | glob n x =>
  refine { e:=λe h=>?_ };obtain⟨_,_,rfl,d⟩:=zAO h;replace h:=d;simp only[yx,qy] at h;obtain⟨⟨rfl,v⟩,h4⟩:=h;exact zA6 (zS7 o (zCb v) (zBt h4).1) λ_=>rfl
 | int i =>
  refine { e:=λe h=>?_ };obtain⟨O,_,_,rfl,d⟩:=zBj h;obtain⟨_,rfl,j⟩:=zJL d;replace h:=j;simp only[qy] at h;subst h;exact zA6 ge_int λ_=>rfl
 | bl b =>
  refine { e:=λe h=>?_ };obtain⟨O,_,_,rfl,d⟩:=zBj h;obtain⟨_,rfl,j⟩:=zH7 d;replace h:=j;simp only[qy] at h;subst h;exact zA6 zS9 λ_=>rfl
 | non =>
  refine { e:=λe h=>?_ };obtain⟨O,_,_,rfl,d⟩:=zBj h;obtain⟨rfl,j⟩:=zDD d;replace h:=j;exact zA6 zRl λ_=>rfl
 | str x =>
  refine { e:=λe h=>?_ };obtain⟨O,_,_,rfl,d⟩:=zBj h;obtain⟨_,rfl,j⟩:=zJJ d;replace h:=j;simp only[qy] at h;subst h;exact zA6 zGB λ_=>rfl
 | bin U a b g w =>
  refine { e:=λe h=>?_ };obtain⟨_,_,_,_,rfl,d⟩:=zH8 h;replace h:=d;simp only[yx,opB,qy] at h;obtain⟨⟨rfl,L⟩,v⟩:=h;exact zA6 (zRs ((g o p).e _ L).1 ((w o p).e _ v).1) λ_=>rfl
 | neg a g =>
  refine { e:=λe h=>?_ };obtain⟨O,_,_,rfl,d⟩:=zDS h;obtain⟨rfl,j⟩:=zDD d;replace h:=j;exact zA6 (zRm ((g o p).e _ h).1) λ_=>rfl
 | not a g =>
  exact { e:=λe h=>(zzf h) }
 | cmp U a b g w =>
  refine { e:=λe h=>?_ };obtain⟨_,O,z2,_,rfl,d⟩:=zB3 h;obtain⟨_,rfl,j⟩:=zAc d;obtain⟨_,rfl,F⟩:=zAc j;replace h:=F;simp only[yx,cmB,qy,Bool.not_eq_true'] at h;obtain⟨⟨⟨rfl,T⟩,L⟩,v⟩:=h;exact zKA p T ((g o p).e _ L).1 ((w o p).e _ v).1
 | andl es Y =>
  refine { e:=λe h=>?_ };obtain⟨O,l,P,rfl,d⟩:=zCt h;obtain⟨rfl,j⟩:=zDD d;replace h:=j;cases l with
  | nil =>
   have z:∀ G,evAnd J es G=none:=λG=>by cases es<;>first | rfl | exact nof h
   exact⟨zDK z,zO2 z⟩
  | cons x R =>
   have q:=(((Y o p).es _ h).2 (by simp) P).1;exact⟨q.1,q.2.pt⟩
 | ite c a b D g w =>
  refine { e:=λe h=>?_ };obtain⟨_,_,_,_,rfl,d⟩:=zH6 h;replace h:=d;simp only[yx] at h;obtain⟨⟨T,L⟩,v⟩:=h;exact⟨zRn ((D o p).e _ T).2 ((g o p).e _ L).1 ((w o p).e _ v).1,zRQ ((D o p).e _ T).2 ((g o p).e _ L).2 ((w o p).e _ v).2⟩
 | tup es Y =>
  refine { e:=λe h=>?_ };obtain⟨_,_,_,rfl,d⟩:=zEZ h;replace h:=d;exact zA6 (zRk ((Y o p).es _ h).1.1) λ_=>rfl
 | lst es Y =>
  refine { e:=λe h=>?_ };obtain⟨_,_,rfl,d⟩:=zFq h;replace h:=d;exact zA6 (zJ8 ((Y o p).es _ h).1.1) λ_=>rfl
 | ix a b g w =>
  refine { e:=λe h=>?_ };obtain⟨_,_,_,rfl,d⟩:=zA0 h;replace h:=d;simp only[yx] at h;obtain⟨⟨T,L⟩,v⟩:=h;exact zA6 (zPN ((g o p).e _ L).1 ((w o p).e _ v).1 (zEa T)) λ_=>rfl
 | sl a lo hi g b6 b3 =>
  refine { e:=λe h=>?_ };obtain⟨_,O,_,rfl,d⟩:=zA0 h;obtain⟨_,_,z2,_,rfl,j⟩:=zH4 d;obtain⟨rfl,F⟩:=zDt j;replace h:=F;simp only[yx] at h;obtain⟨⟨T,L⟩,v⟩:=h;exact zA6 (zS5 ((g o p).e _ T).1 ((b6 o p).o _ L) ((b3 o p).o _ v)) λ_=>rfl
 | call n f es Y =>
  refine { e:=λe h=>?_ };obtain⟨_,_,_,_,rfl,d⟩:=zBs h;replace h:=d;simp only[yx,qy] at h;obtain⟨⟨⟨rfl,v⟩,A⟩,h4⟩:=h;exact zA6 (zS8 o (zCb v) (zBt A).1 ((Y o p).es _ h4).1.1 (zKx h4) λe G=>by subst e;exact zPt h4 G) λ_=>rfl
 | len a g =>
  refine { e:=λe h=>?_ };obtain⟨_,_,_,_,rfl,d⟩:=zBs h;obtain⟨_,rfl,j⟩:=zAc d;replace h:=j;simp only[yx,qy] at h;obtain⟨⟨⟨rfl,v⟩,A⟩,h4⟩:=h;obtain⟨K,B⟩:=zBC o v;exact zA6 (zRt zDV zOP K B PySem.boot_len ((g o p).e _ h4).1 (zAB A) (by decide) (by decide)) λ_=>rfl
 | abs a g =>
  refine { e:=λe h=>?_ };obtain⟨_,_,_,_,rfl,d⟩:=zBs h;obtain⟨_,rfl,j⟩:=zAc d;replace h:=j;simp only[yx,qy] at h;obtain⟨⟨⟨rfl,v⟩,A⟩,h4⟩:=h;obtain⟨K,B⟩:=zBC o v;exact zA6 (zRt (by intro pins s σ H R us Q I r h;obtain⟨i,rfl,q⟩:=h;obtain⟨u,rfl,t,rfl⟩:=zFa r;exact call_abs_int λu tk=>⟨.int _,H,I.tok _,⟨_,rfl⟩,q⟩) zOS K B boot_abs ((g o p).e _ h4).1 (zAB A) (by decide) (by decide)) λ_=>rfl
 | list a g =>
  refine { e:=λe h=>?_ };obtain⟨_,_,_,_,rfl,d⟩:=zBs h;obtain⟨_,rfl,j⟩:=zAc d;replace h:=j;simp only[yx,qy] at h;obtain⟨⟨⟨rfl,v⟩,A⟩,h4⟩:=h;obtain⟨K,B⟩:=zBC o v;exact zA6 (zPM zDU zLb K B boot_list ((g o p).e _ h4).1 (zAB A) (by decide) (by decide)) λ_=>rfl
 | max a b g w =>
  refine { e:=λe h=>?_ };obtain⟨_,_,_,_,rfl,d⟩:=zBs h;obtain⟨_,_,rfl,j⟩:=zDu d;replace h:=j;simp only[yx,qy] at h;obtain⟨⟨⟨⟨⟨rfl,v⟩,A⟩,h4⟩,h5⟩,h6⟩:=h;obtain⟨K,B⟩:=zBC o v;exact zA6 (zTA (zKt o.calm) (λx y z e=>by
   unfold maxD at e;split at e
   .cases e;exact⟨_,_,rfl,rfl,rfl⟩
   .cases e) K B boot_max ((g o p).e _ h5).1 ((w o p).e _ h6).1 (zAB A) (zAB h4) (by decide) (by decide)) λ_=>rfl
 | chn U d0 a b c g w D =>
  refine { e:=λe h=>?_ };obtain⟨_,O,z2,_,rfl,d⟩:=zB3 h;obtain⟨_,_,rfl,j⟩:=zDu d;obtain⟨_,_,rfl,F⟩:=zDu j;replace h:=F;simp only[yx,cmB,qy] at h;obtain⟨⟨⟨⟨⟨⟨rfl,rfl⟩,L⟩,v⟩,A⟩,h4⟩,h5⟩:=h;have k:∀ {U:CmpOp},chB U=true->∃ r,OpR X (compareOp U) r/\OpD X.K r (cmpD U):=λ{U} q=>by
   cases U with
   | Lt=>exact⟨_,zQn,zBb (zB7 rfl)⟩
   | LtE=>exact⟨_,zQo,zBb (zB7 rfl)⟩
   | Gt=>exact⟨_,zQq,zBb (zB7 rfl)⟩
   | GtE=>exact⟨_,zQr,zBb (zB7 rfl)⟩
   | _=>exact absurd q (by decide)
  obtain⟨r,a1,a2⟩:=k L;obtain⟨r',b1,b2⟩:=k v;exact ⟨(zLZ a1 b1 ((g o p).e _ A).1 ((w o p).e _ h4).1 ((D o p).e _ h5).1 (zHP v)).imp λ_ _ _ q=>zHK a2 b2 q,(zLQ a1 b1 ((g o p).e _ A).1 ((w o p).e _ h4).1 ((D o p).e _ h5).1 (zHP v)).imp λ_ _ _ q=>zHK a2 b2 (zGt q)⟩
 | callv i a g =>
  refine { e:=λe h=>?_ };obtain⟨_,_,_,_,rfl,d⟩:=zBs h;obtain⟨_,rfl,j⟩:=zAc d;replace h:=j;simp only[yx,qy] at h;obtain⟨⟨⟨⟨L,v⟩,A⟩,h4⟩,h5⟩:=h;obtain⟨d1,d2⟩:=zBt A;exact zA6 (zMF o.g.lm o.g.fn o.room L (zEq v) d1 d2 ((g o p).e _ h5).1 (zAB h4) o.own) λ_=>rfl
 | fld a f g =>
  refine { e:=λe h=>?_ };obtain⟨_,_,_,rfl,d⟩:=zAK h;replace h:=d;simp only[yx,qy] at h;obtain⟨⟨rfl,v⟩,A⟩:=h;exact zA6 (zRq ((g o p).e _ A).1 (zIB v) λc m C q=>o.g.ob _ m C q) λ_=>rfl
 | lrev a g =>
  refine { e:=λe h=>?_ };obtain⟨O,z2,z3,_,rfl,d⟩:=zAl h;obtain⟨_,_,rfl,j⟩:=zAO d;obtain⟨z4,rfl,F⟩:=zAc j;obtain⟨z5,z6,z7,_,rfl,a3⟩:=zAl F;obtain⟨_,_,rfl,a0⟩:=zAO a3;obtain⟨_,rfl,W⟩:=zAc a0;obtain⟨rfl,V⟩:=zBA W;obtain⟨rfl,a4⟩:=zBA V;replace h:=a4;simp only[yx,qy] at h;obtain⟨⟨⟨⟨⟨rfl,rfl⟩,v⟩,A⟩,h4⟩,h5⟩:=h;obtain⟨K,B⟩:=zBC o v;obtain⟨g3,g4⟩:=zBC o A;exact zA6 (zIO o.calm K B g3 g4 ((g o p).e _ h5).1 (zAB h4)) λ_=>rfl
 | tupl a g =>
  refine { e:=λe h=>?_ };obtain⟨_,_,_,_,rfl,d⟩:=zBs h;obtain⟨_,rfl,j⟩:=zAc d;replace h:=j;simp only[yx,qy] at h;obtain⟨⟨⟨rfl,v⟩,A⟩,h4⟩:=h;obtain⟨K,B⟩:=zBC o v;exact zA6 (zPM zFQ zJB K B (by decide) ((g o p).e _ h4).1 (zAB A) (by decide) (by decide)) λ_=>rfl
 | comp1 n ms x c9 c el N D M =>
  refine { e:=λe h=>?_ };obtain⟨tg,c0,c7,ifs,b5,P,rfl,q⟩:=zHj o (N o p) (λo'=>D o' (zB2 o')) (λo'=>M o' (zB2 o')) h;exact zA6 (zJ9 o.calm q.hi q.hs q.cs q.hm q.hg q.hc q.he) λ_=>rfl
 | lzip a b g w =>
  refine { e:=λe h=>?_ };obtain⟨O,z2,z3,_,rfl,d⟩:=zAl h;obtain⟨_,_,rfl,j⟩:=zAO d;obtain⟨z4,rfl,F⟩:=zAc j;obtain⟨z5,z6,z7,_,rfl,a3⟩:=zAl F;obtain⟨_,_,rfl,a0⟩:=zAO a3;obtain⟨_,_,rfl,W⟩:=zDu a0;obtain⟨rfl,V⟩:=zBA W;obtain⟨rfl,a4⟩:=zBA V;replace h:=a4;simp only[yx,qy] at h;obtain⟨⟨⟨⟨⟨⟨⟨rfl,rfl⟩,v⟩,A⟩,h4⟩,h5⟩,h6⟩,h7⟩:=h;obtain⟨K,B⟩:=zBC o v;obtain⟨g3,g4⟩:=zBC o A;exact zA6 (zIN o.calm K B g3 g4 ((g o p).e _ h6).1 ((w o p).e _ h7).1 (zAB h4) (zAB h5)) λ_=>rfl
 | it a g =>
  refine { i:=λit h=>?_ };replace h:(zJP it&&cE a X.env.scope X.N bs it)=true:=h;simp only[yx] at h;exact⟨λtg=>zRj ((g o p).e _ h.2).1,zEb h.1⟩
 | r1 a g =>
  refine { i:=λit h=>?_ };obtain⟨_,_,_,_,rfl,d⟩:=zBs h;obtain⟨_,rfl,j⟩:=zAc d;replace h:=j;simp only[yx,qy] at h;obtain⟨⟨⟨rfl,v⟩,A⟩,h4⟩:=h;obtain⟨K,B⟩:=zBC o v;exact⟨λtg=>zJ6 K B ((g o p).e _ h4).1 (zAB A),λ_=>rfl⟩
 | r2 a b g w =>
  refine { i:=λit h=>?_ };obtain⟨_,_,_,_,rfl,d⟩:=zBs h;obtain⟨_,_,rfl,j⟩:=zDu d;replace h:=j;simp only[yx,qy] at h;obtain⟨⟨⟨⟨⟨rfl,v⟩,A⟩,h4⟩,h5⟩,h6⟩:=h;obtain⟨K,B⟩:=zBC o v;exact⟨λtg=>zJ5 K B ((g o p).e _ h5).1 ((w o p).e _ h6).1 (zAB A) (zAB h4),λ_=>rfl⟩
 | r3 a b c g w D =>
  refine { i:=λit h=>?_ };obtain⟨_,_,_,_,rfl,d⟩:=zBs h;obtain⟨_,_,_,rfl,j⟩:=zQu d;replace h:=j;simp only[yx,qy] at h;obtain⟨⟨⟨⟨⟨⟨⟨rfl,v⟩,A⟩,h4⟩,h4'⟩,h5⟩,h6⟩,h7⟩:=h;obtain⟨K,B⟩:=zBC o v;exact⟨λtg=>zJ4 K B ((g o p).e _ h5).1 ((w o p).e _ h6).1 ((D o p).e _ h7).1 (zAB A) (zAB h4) (zAB h4'),λ_=>rfl⟩
 | nil =>
  refine⟨λe h=>(zzf h),λes h=>?_,λoe h=>?_,λit h=>(zzf h),λifs h=>?_⟩
  .cases es with
   | nil=>exact⟨⟨zKB,zPT⟩,λz=>absurd rfl z⟩
   | cons x R=>exact nof h
  .cases oe with
   | none=>exact zPE
   | some x=>exact nof h
  .cases ifs with
   | nil=>exact (λpins s σ H Q I Z=>by obtain⟨S,G,b,ds,e,c⟩:=Z;exact wpAny_tests_nil ⟨H,I,by cases e;exact c H (Same.refl _)⟩)
   | cons x R=>exact nof h
 | cons e es M N =>
  refine⟨λe h=>(zzf h),λl h=>?_,λoe h=>?_,λit h=>(zzf h),λifs h=>?_⟩
  .cases l with
   | nil=>exact nof h
   | cons x R =>
    replace h:(zAX x&&cE e X.env.scope X.N bs x&&cEs es X.env.scope X.N bs R)=true:=h;simp only[yx] at h;obtain⟨⟨L,v⟩,A⟩:=h;obtain⟨q1,q2⟩:=(M o p).e _ v;refine⟨⟨zD6 q1 ((N o p).es _ A).1.1 (zAB L),zMI q1 ((N o p).es _ A).1.2 (zAB L)⟩,λ_ P=>?_⟩;cases R with
    | nil =>
     have hn:es=.nil:=by cases es<;>first | rfl | exact(zzf A)
     subst hn;exact⟨⟨zNU q1,(zIy q2)⟩,zNU q1,zF8 q2⟩
    | cons y ys =>
     have hc:∃ a b,es=.cons a b:=by cases es<;>first | exact⟨_,_,rfl⟩ | exact(zzf A)
     obtain⟨a,b,rfl⟩:=hc;obtain⟨⟨r1,r2⟩,r3,r4⟩:=((N o p).es _ A).2 (by simp) P;exact⟨⟨zRu q1 r1,zRN q2 r2⟩,zS6 q1 r3,zRM q2 r4⟩
  .cases oe with
   | none=>exact nof h
   | some x =>
    replace h:cE e X.env.scope X.N bs x=true:=h;exact zPD ((M o p).e _ h).1
  .cases ifs with
   | nil=>exact nof h
   | cons x R =>
    cases R with
    | nil=>exact (λpins s σ H Q I q=>wpAny_tests_one (((M o p).e _ h).2 pins s σ H Q I q))
    | cons _ _=>exact nof h
theorem zK1 (h:zCv kk=true)(v:Value):assign (.Subscript o kk spos) env v=(do
   let ov<-holding [v] (eval o env)
   let iv<-holding [v,ov] (eval kk env)
   standAt spos
   holding [v,ov,iv] (setItem ov iv v)
   release [v,ov,iv] []):=by
 cases kk<;>first | rfl | cases h
theorem zIh (h:zDw e=true):swapsWithSole [t] e n env=pure false:=zBu h
theorem zBO (h:varB sc N i x=true):N[i]?=some x/\Loc sc x/\Vis sc x/\(x==("__debug__":Str))=false/\(x==("__classdict__":Str))=false:=by
 unfold varB at h;simp at h;obtain⟨⟨b,a⟩,h3⟩:=h;exact⟨b,zDy a,((zDy a).elim .inl λe=>.inr (.inl e)),zBt h3⟩
theorem zQG (o:XOk X k J bs)(v:∀ x,X.fn x=true)(a4:X.xe=λ_ _=>False)(a5:X.stack=X.env::X.outer)(Y:X.env.frame=some X.env.locals)(a:S) :
  ((∀ st,cS X.env.scope X.N bs a st=true->GS X st (evS J a))/\∀ sts,cSs X.env.scope X.N bs a sts=true->GSs X sts (evSs J a)) /\
  (∀ st,cS X.env.scope X.N bs a st=true->GXs X st (xvS J a))/\∀ sts,cSs X.env.scope X.N bs a sts=true->GXss X sts (xvSs J a):=by
 induction a with
 | nil =>
  refine⟨⟨λst h=>(zzf h),λsts h=>?_⟩,λst h=>zAM,λsts h=>zAM⟩;cases sts with
  | nil=>exact zO5
  | cons x M=>exact nof h
 | cons a b A j =>
  refine⟨⟨λst h=>(zzf h),λsts h=>?_⟩,λst h=>zAM,λsts h=>zAM⟩
  .cases sts with
   | nil=>exact nof h
   | cons x M =>
    replace h:(cS X.env.scope X.N bs a x&&cSs X.env.scope X.N bs b M)=true:=h;simp only[yx] at h;exact zL2 (A.1.1 _ h.1) (j.1.2 _ h.2)
 | frz i r V =>
  refine⟨⟨λst h=>(zzf h),λsts h=>?_⟩,λst h=>zAM,λsts h=>zAM⟩
  .replace h:cSs X.env.scope X.N bs r sts=true:=h;exact zO4 zRz (V.1.2 _ h)
 | set i e =>
  refine⟨⟨λst h=>?_,λsts h=>(zzf h)⟩,λst h=>zAM,λsts h=>zAM⟩
  .obtain ⟨w,_,_,rfl,d⟩:=zA4 h;obtain⟨F,rfl,f⟩:=zAc d;obtain⟨_,_,rfl,g⟩:=zAO f;replace h:=g;simp only[yx,qy] at h;obtain⟨⟨s,t⟩,h4⟩:=h;obtain⟨l,u,_⟩:=zBO s;exact zNT o.nd l u ((zCr o e).e _ h4).1 (zBu t) (.inl (v _))
 | setC i e =>
  refine⟨⟨λst h=>?_,λsts h=>(zzf h)⟩,λst h=>zAM,λsts h=>zAM⟩;obtain⟨w,_,_,rfl,d⟩:=zA4 h;obtain⟨F,rfl,f⟩:=zAc d;obtain⟨_,_,rfl,g⟩:=zAO f;replace h:=g;simp only[yx,qy] at h;obtain⟨⟨O,s⟩,h4⟩:=h;obtain⟨l,u,_⟩:=zBO s;cases e with
  | comp1 n ms x K c U =>
   obtain⟨tg,N,a3,P,L,a1,rfl,q⟩:=zHj o (zCr o K) (λo'=>zCr o' c) (λo'=>zCr o' U) h4;exact zPB o.calm q.hi q.hs q.cs q.hm q.hg q.hc q.he o.nd l u (.inl (v _))
  | _=>cases O
 | app i e =>
  refine⟨⟨λst h=>?_,λsts h=>(zzf h)⟩,λst h=>zAM,λsts h=>zAM⟩;obtain⟨w,_,rfl,d⟩:=zBY h;obtain⟨F,z3,z4,_,rfl,f⟩:=zAl d;obtain⟨R,_,_,rfl,g⟩:=zAK f;obtain⟨_,_,rfl,z⟩:=zAO g;obtain⟨_,rfl,B⟩:=zAc z;obtain⟨rfl,y⟩:=zBA B;replace h:=y;simp only[yx,qy] at h;obtain⟨⟨⟨⟨rfl,s⟩,t⟩,h4⟩,h5⟩:=h;obtain⟨l,u,I,D,E⟩:=zBO s;exact zRX l I D E ((zCr o e).e _ h5).1 (zAB h4) rfl t
 | aug op i e =>
  refine⟨⟨λst h=>?_,λsts h=>(zzf h)⟩,λst h=>zAM,λsts h=>zAM⟩;obtain⟨w,_,_,_,rfl,d⟩:=zCq h;obtain⟨_,_,rfl,f⟩:=zAO d;replace h:=f;simp only[yx,qy,opB] at h;obtain⟨⟨⟨rfl,s⟩,t⟩,h4⟩:=h;obtain⟨l,u,_⟩:=zBO s;exact zRW o.nd l u ((zCr o e).e _ h4).1 (.inl (v _))
 | ext i e =>
  refine⟨⟨λst h=>?_,λsts h=>(zzf h)⟩,λst h=>zAM,λsts h=>zAM⟩;obtain⟨w,_,rfl,d⟩:=zBY h;obtain⟨F,z3,z4,_,rfl,f⟩:=zAl d;obtain⟨R,_,_,rfl,g⟩:=zAK f;obtain⟨_,_,rfl,z⟩:=zAO g;obtain⟨_,rfl,B⟩:=zAc z;obtain⟨rfl,y⟩:=zBA B;replace h:=y;simp only[yx,qy] at h;obtain⟨⟨⟨⟨rfl,s⟩,t⟩,h4⟩,h5⟩:=h;obtain⟨l,u,I,D,E⟩:=zBO s;exact zRV l I D E ((zCr o e).e _ h5).1 (zAB h4) rfl t
 | ife c a b A j =>
  refine⟨⟨λst h=>?_,λsts h=>(zzf h)⟩,λst h=>zAM,λsts h=>zAM⟩
  .obtain ⟨_,_,_,_,rfl,d⟩:=zGg h;replace h:=d;simp only[yx] at h;obtain⟨⟨T,s⟩,t⟩:=h;exact zS1 ((zCr o c).e _ T).2 (A.1.2 _ s) (j.1.2 _ t)
 | whl c b j =>
  refine⟨⟨λst h=>?_,λsts h=>(zzf h)⟩,λst h=>zAM,λsts h=>zAM⟩;obtain⟨_,_,w,_,rfl,d⟩:=zH3 h;obtain⟨rfl,f⟩:=zBA d;replace h:=f;simp only[yx] at h;exact zL9 o.own ((zCr o c).e _ h.1).2 (j.1.2 _ h.2)
 | for1 i it b j =>
  refine⟨⟨λst h=>?_,λsts h=>(zzf h)⟩,λst h=>zAM,λsts h=>zAM⟩;obtain⟨w,_,_,F,_,rfl,d⟩:=zHM h;obtain⟨_,_,rfl,f⟩:=zAO d;obtain⟨rfl,g⟩:=zBA f;replace h:=g;simp only[yx,qy] at h;obtain⟨⟨s,t⟩,h4⟩:=h;obtain⟨l,u,_⟩:=zBO s;obtain⟨Q,Z⟩:=(zCr o it).i _ t;exact zRU o.own o.calm (Q _) (zJ7 o.nd l u (.inl (v _))) (j.1.2 _ h4) Z
 | ret e =>
  refine⟨⟨λst h=>?_,λsts h=>(zzf h)⟩,λst h=>zAM,λsts h=>zAM⟩
  .obtain ⟨w,_,rfl,d⟩:=zCG h;obtain⟨_,rfl,f⟩:=zC1 d;replace h:=f;exact zRT ((zCr o e).e _ h).1
 | retOwn i =>
  refine⟨⟨λst h=>?_,λsts h=>(zzf h)⟩,λst h=>zAM,λsts h=>zAM⟩;obtain⟨w,_,rfl,d⟩:=zCG h;obtain⟨F,rfl,f⟩:=zC1 d;obtain⟨_,_,rfl,g⟩:=zAO f;replace h:=g;obtain⟨l,u,I,D,E⟩:=zBO h;exact zJz l I D E
 | pass =>
  refine⟨⟨λst h=>?_,λsts h=>(zzf h)⟩,λst h=>zAM,λsts h=>zAM⟩;obtain⟨_,rfl,d⟩:=zJF h;replace h:=d;exact zPC
 | never=>exact⟨⟨λst _=>(λH0=>(zE0 (X:=X) (st:=st)).imp λE σ H C=>by obtain⟨S,G,o,ds,O,e,p⟩:=C;cases e),λsts h=>(zzf h)⟩,λst h=>zAM,λsts h=>zAM⟩
 | rse c m =>
  exact⟨⟨λst h=>(zzf h),λsts h=>(zzf h)⟩,λst h=>(zzf h),λsts h=>(zzf h)⟩
end
theorem zNg {K:W.Frag}{st:Stmt}(F:Fun K x qual st f fd)(sc:zAV N ps (zAA st))
  (d:cSs (zAA st) N bs b (zAF st)=true) (g:GOk P w K mg base k J bs):FnOk P w K mg base CX0 (k+1) f fd ps (spD K (dFun ps.length N.length (evSs J b))) :=
 zRy F sc λcdv A a s H E c =>
  (zQG ⟨g,c,rfl,sc.nd,PassesOwn.never⟩ (λ_=>rfl) rfl rfl rfl b).1.2 _ d
noncomputable def Gm.add (J:Gm)(x:Str)(F:List D->Option R):Gm:=⟨J.fns++[(x,F)],J.cs,J.xf,J.sub,J.rs,J.lm,J.ob⟩
theorem GOk.add {K:W.Frag}{st:Stmt}(g:GOk P w K mg base k J bs)(F:Fun K x x st f fd)(sc:zAV N ps (zAA st))
  (d:cSs (zAA st) N bs b (zAF st)=true) (m:mg x=some (.ref f)) (l:zBJ K fd ps []):GOk P w K mg base (k+1) (J.add x (dFun ps.length N.length (evSs J b))) bs:=by
 refine⟨λy G h=>?_,g.cs,g.bt,trivial,g.sb,g.rs,λj L F e=>(g.lm j L F e).mono (Nat.le_succ k),g.ob⟩
 .rcases mem_append.mp h with h | h
  .obtain ⟨i,a,c,o,n⟩:=g.fn y G h;exact⟨i,a,c,o.mono (Nat.le_succ k),n⟩
  .have e:(y,G)=(x,dFun ps.length N.length (evSs J b)):=by simpa using h
   cases e;exact⟨f,fd,ps,zNg F sc d g,m,F.kp,l⟩
theorem GOk.addN {K:W.Frag}{st:Stmt}(g:GOk P w K mg base k J bs)(F:Fun K x x st f fd)(m:mg x=some (.ref f))(c:zBJ K fd ps []) :
  GOk P w K mg base k (J.add x (λ_=>none)) bs:=by
 refine⟨λy G h=>?_,g.cs,g.bt,trivial,g.sb,g.rs,g.lm,g.ob⟩
 .rcases mem_append.mp h with h | h
  .exact g.fn y G h
  .have e:(y,G)=(x,λ_=>none):=by simpa using h
   cases e;exact⟨f,fd,ps,⟨λvs H Q E q=>(by obtain⟨_,_,_,_,_,q,_⟩:=q;cases q),λA a s H b us i Q E n l d j q=>(by obtain⟨_,_,_,_,_,q,_⟩:=q;cases q)⟩,m,F.kp,c⟩
theorem GOk.addR {K:W.Frag}{st:Stmt}(g:GOk P w K mg base k J bs)(g':GOk P w K mg base j J' bs)(q:k<=j)(F:Fun K x x st f fd)(sc:zAV N ps (zAA st))
  (d:cSs (zAA st) N bs b (zAF st)=true) (m:mg x=some (.ref f)) (n:zBJ K fd ps []):GOk P w K mg base (j+1) (J.add x (dFun ps.length N.length (evSs J' b))) bs:=by
 refine⟨λy G h=>?_,g.cs,g.bt,trivial,g.sb,g.rs,λi L F e=>(g.lm i L F e).mono (by omega),g.ob⟩
 .rcases mem_append.mp h with h | h
  .obtain ⟨o,a,c,l,p⟩:=g.fn y G h;exact⟨o,a,c,l.mono (by omega),p⟩
  .have e:(y,G)=(x,dFun ps.length N.length (evSs J' b)):=by simpa using h
   cases e;exact⟨f,fd,ps,zNg F sc d g',m,F.kp,n⟩
noncomputable def Gm.addL (J:Gm)(L:LamI)(F:List D->Option R):Gm:=⟨J.fns,J.cs,J.xf,J.sub,J.rs,J.lm++[(L,F)],J.ob⟩
noncomputable def lamD (n:Nat)(G:Dst->Option R):List D->Option R:=λds=>if ds.length=n+1/\noFs ds=true then G (ds.map λd=>some (d,false)) else none
theorem GOk.addL {K:W.Frag}(g:GOk P w K mg base k J bs)(S:zGS x ys L)(t:frN L=ys)(d:cE be L.scope (x::ys) bs L.body=true) :
  GOk P w K mg base (k+1) (J.addL L (lamD ys.length (evE J be))) bs:=by
 refine⟨λy G h=>let ⟨f,fd,ps,h1,h2⟩:=g.fn y G h;⟨f,fd,ps,h1.mono (Nat.le_succ k),h2⟩,g.cs,g.bt,trivial,g.sb,g.rs,λj b F e=>?_,g.ob⟩;have a:(J.lm++[(L,lamD ys.length (evE J be))])[j]?=some (b,F):=e;by_cases q:j < J.lm.length
 .rw [getElem?_append_left q] at a;exact(g.lm j b F a).mono (Nat.le_succ k)
 .rw [getElem?_append_right (by omega)] at a;have l:j - J.lm.length=0:=by
   by_cases z:j - J.lm.length=0
   .exact z
   .rw [List.getElem?_eq_none (by simp;omega)] at a;cases a
  rw[l] at a;cases a;refine zOj S t λY r o p m v i n c s u=>?_
  subst r o p m v;rw[<- c,<- s] at d;exact((zCr (X:=Y) ⟨g,i,n,by rw[c];exact S.nd,by rw[u];exact PassesOwn.never⟩ be).e _ d).1
theorem zMu (h:absV u=some v):RelV v u:=by
 unfold absV at h;split at h<;>first | cases h;rfl | cases h;exact⟨_,rfl⟩ | cases h
theorem zG8:∀ {us:List Value} {vs:List V},us.map absV=vs.map some->Vals vs us
 | [],[],_=>.nil
 | [],_::_,h=>by simp at h
 | _::_,[],h=>by simp at h
 | u::us,v::vs,h=>by
  simp only[map_cons,List.cons.injEq] at h;exact .cons (zMu h.1) (zG8 h.2)
theorem zFL {K:W.Frag}{b:Str->Option Value}{ns:List Int}(m:b x=some (.ref a))(l:K.lookup a=some ⟨.type "tuple",od,.seq its n,sl⟩)
  (h:its.toList.map absV=(ns.map V.int).map some) (d:ns.length<=1000:=by decide):∃ u v,b x=some u/\RelV v u/\Den K (λ_=>none) (.tup (ns.map D.int)) v:=by
 refine⟨_,.ref a,m,rfl,?_⟩;refine⟨a,ns.map V.int,rfl,.inr ⟨_,its,n,l,rfl,rfl,?_,zG8 h⟩,DenL.ints ns⟩;have e:=congrArg List.length h;rw[List.length_map,List.length_map,List.length_map] at e;have c:its.size=ns.length:=e;rw[c];exact Nat.le_of_lt ((Nat.lt_of_le_of_lt d (by decide)))
theorem zCx {L:List (Str×Str×Bool)}(h:(c,y,b)∈L):(c,b)∈(L.filter λp=>decide (p.2.1=y)).map λp=>(p.1,p.2.2):=mem_map.mpr ⟨_,mem_filter.mpr ⟨h,decide_eq_true rfl⟩,rfl⟩
end DL
end
section
namespace DL
open PySem L2
theorem zKZ :evE J (.var i)=varD i:=rfl
theorem zMW :evE J (.glob n x)=zGA J n x:=rfl
theorem zPj :evE J (.neg a)=negD (evE J a):=rfl
theorem zGv :evAnd J (.cons e (.cons a b))=andD (evE J e) (evAnd J (.cons a b)):=rfl
theorem zKY :evEs J (.cons e es)=zFO (evE J e) (evEs J es):=rfl
theorem zPi :evE J (.tup es)=tupD (evEs J es):=rfl
theorem zPk :evE J (.lst es)=lstD (evEs J es):=rfl
theorem zMX :evE J (.call n f es)=fnD J n f (evEs J es):=rfl
theorem zSB :evE J (.sl a lo hi)=slD (evE J a) (evO J lo) (evO J hi):=rfl
theorem zR8 :evSs J (.cons a b)=seqD (evS J a) (evSs J b):=rfl
theorem zPa :evS J (.set i e)=setD i (evE J e):=rfl
theorem zMS :evS J (.setC i e)=setD i (evE J e):=rfl
theorem zPc :evS J (.ife c a b)=ifD (asB (evE J c)) (evSs J a) (evSs J b):=rfl
theorem zPb :evS J (.ret e)=retD (evE J e):=rfl
theorem zSA :evI J (.r1 a)=zIu (evE J a):=rfl
theorem zKa :evE J (.comp1 n ms u2 src c e)=zIT ms 1 (evI J src) (tg1 n) (evC J c) (evE J e):=rfl
theorem zPl :evE J (.chn op op' a b c)=chD (cmpD op) (cmpD op') (evE J a) (evE J b) (evE J c):=rfl
def EvP {O:Type}(o:Option O)(Q:O->Prop):Prop:=∃ r,o=some r/\Q r
section
variable {O T:Type}{J:Gm}{G:Dst}
theorem EvP.bind {o:Option O}{f:O->Option T}{Q:T->Prop}(h:EvP o λa=>EvP (f a) Q):EvP (o.bind f) Q:=by
 obtain⟨a,e,b,c,q⟩:=h;exact⟨b,by rw[e];exact c,q⟩
theorem EvP.eq {o:Option O}{r:O}(h:EvP o λx=>x=r):o=some r:=by
 obtain⟨x,e,rfl⟩:=h;omega
theorem EvP.imp {o:Option O}{Q a:O->Prop}(h:EvP o Q)(i:∀ x,Q x->a x):EvP o a:=by
 obtain⟨x,e,q⟩:=h;exact⟨x,e,i x q⟩
def CB (b:Bool)(A B:Prop):Prop:=if b=true then A else B
theorem zGK [Decidable p](b:p->A)(a:¬ p->B):CB (decide p) A B:=by
 unfold CB;grind
theorem cb_f (h:B):CB false A B:=by assumption
variable {Q:R->Prop}
theorem zAm (e:G[i]?=some (some (d,false)))(h:Q (d,.cl)):EvP (evE J (.var i) G) Q:=by
 rw[zKZ];unfold varD;rw[e];exact⟨_,rfl,h⟩
theorem zTB (e:G[i]?=some (some (.lst d,true)))(h:Q (.lst d,.dt)):EvP (evE J (.var i) G) Q:=by
 rw[zKZ];unfold varD;rw[e];exact⟨_,rfl,h⟩
theorem zPW (e:J.cs[n]?=some (x,d))(h:Q (d,.cl)):EvP (evE J (.glob n x) G) Q:=by
 rw[zMW];unfold zGA;rw[e];exact⟨_,if_pos rfl,h⟩
theorem zAd (h:Q (.int i,.cl)):EvP (evE J (.int i) G) Q:=⟨_,rfl,h⟩
theorem zPX (h:Q (.bl b,.cl)):EvP (evE J (.bl b) G) Q:=⟨_,rfl,h⟩
theorem zNY (h:Q (.non,.cl)):EvP (evE J .non G) Q:=⟨_,rfl,h⟩
theorem zEB (h:Q (.str x,.cl)):EvP (evE J (.str x) G) Q:=⟨_,rfl,h⟩
theorem zKN (h:EvP (f G) λx=>EvP (g G) λy=>EvP (o x.1 y.1) Q):EvP (two f g o G) Q:=EvP.bind (h.imp λ_ q=>EvP.bind q)
theorem zA7 (h:EvP (evE J a G) λx=>EvP (evE J b G) λy=>EvP (binD op x.1 y.1) Q):EvP (evE J (.bin op a b) G) Q:=zKN h
theorem zCU (h:EvP (evE J a G) λx=>EvP (evE J b G) λy=>EvP (cmpD op x.1 y.1) Q):EvP (evE J (.cmp op a b) G) Q:=zKN h
theorem zIQ (h:EvP (evE J a G) λx=>EvP (evE J b G) λy=>EvP (ixD x.1 y.1) Q):EvP (evE J (.ix a b) G) Q:=zKN h
theorem zC5 (h:EvP (evE J a G) λx=>EvP (lenD x.1) Q):EvP (evE J (.len a) G) Q:=(EvP.bind h)
theorem zHX:∀ ns:List Int,zDT (ns.map D.int)=some ns
 | []=>rfl
 | n::ns=>by rw[map_cons,zDT,zHX ns];rfl
theorem zNZ (h:EvP (evE J a G) λx=>∃ i,x.1=.int i/\Q (.int (-i),.cl)):EvP (evE J (.neg a) G) Q:=by
 obtain⟨⟨d,k⟩,e,i,ei,q⟩:=h;cases ei;rw[zPj];unfold negD;rw[e];exact⟨_,rfl,q⟩
theorem zNj {f:Dst->Option R}{b:Bool}{k:Kd}(e:f G=some (.bl b,k)):asB f G=some b:=by unfold asB;rw[e]
theorem zKP (h:EvP (evAnd J es G) Q):EvP (evE J (.andl es) G) Q:=h
theorem zKR (h:EvP (evE J e G) Q):EvP (evAnd J (.cons e .nil) G) Q:=h
theorem zKQ (h:EvP (evE J e G) λx=>∃ k,x.1=.bl k/\CB k (EvP (evAnd J (.cons a b) G) Q) (Q (.bl false,.cl))):EvP (evAnd J (.cons e (.cons a b)) G) Q:=by
 obtain⟨⟨d,c⟩,e,k,ek,q⟩:=h;cases ek;rw[zGv];unfold andD;rw[zNj e];cases k with
 | true=>exact q
 | false=>exact⟨_,rfl,by unfold CB at q;exact q⟩
theorem zCV {Q:List D->Prop}(h:Q []):EvP (evEs J .nil G) Q:=⟨_,rfl,h⟩
theorem zAx {Q:List D->Prop}(h:EvP (evE J e G) λx=>x.2≠.dt/\EvP (evEs J es G) λxs=>Q (x.1::xs)):EvP (evEs J (.cons e es) G) Q:=by
 rw[zKY];obtain⟨x,e,a,xs,b,q⟩:=h;exact⟨_,by unfold zFO;rw[e];show (if x.2=.dt then none else _)=_;rw[if_neg a,b];rfl,q⟩
theorem zR4 (h:EvP (evEs J es G) λxs=>xs.length<=10000/\Q (.tup xs,.cl)):EvP (evE J (.tup es) G) Q:=by
 rw[zPi];obtain⟨xs,e,l,q⟩:=h;exact⟨_,by unfold tupD;rw[e];exact if_pos l,q⟩
theorem zKO (h:EvP (evEs J es G) λxs=>xs.length<=10000/\Q (.lst xs,.fr)):EvP (evE J (.lst es) G) Q:=by
 rw[zPk];obtain⟨xs,e,l,q⟩:=h;exact⟨_,by unfold lstD;rw[e];exact if_pos l,q⟩
theorem zBv (e:J.fns[n]?=some (f,F))(h:EvP (evEs J es G) λds=>EvP (F ds) λr=>r.2≠.dt/\Q r):EvP (evE J (.call n f es) G) Q:=by
 rw[zMX];unfold fnD;obtain⟨ds,c,r,b,a,q⟩:=h;refine⟨r,?_,q⟩;unfold zIU
 simp_all
theorem zR5 (h:EvP (evE J a G) λx=>EvP (evO J lo G) λl=>EvP (evO J hi G) λu=>∃ ds,x.1=.lst ds/\Q (.lst (cutD ds l u),.fr)):EvP (evE J (.sl a lo hi) G) Q:=by
 rw[zSB];obtain⟨⟨d,k⟩,e,l,e1,u,e2,ds,ed,q⟩:=h;cases ed;exact⟨_,by unfold slD;rw[e];rw[e1];rw[e2];rfl,q⟩
theorem zMs (h:Q (.int (i+j),.cl)):EvP (binD .Add (.int i) (.int j)) Q:=⟨_,rfl,h⟩
theorem zSO (l:xs.length+ys.length<=10000)(h:Q (.lst (xs++ys),.fr)):EvP (binD .Add (.lst xs) (.lst ys)) Q:=⟨_,if_pos l,h⟩
theorem zSM (h:Q (.int (i - j),.cl)):EvP (binD .Sub (.int i) (.int j)) Q:=⟨_,rfl,h⟩
theorem zEJ (l:i.natAbs < 18446744073709551616\/j.natAbs < 18446744073709551616)(h:Q (.int (i*j),.cl)):EvP (binD .Mult (.int i) (.int j)) Q:=⟨_,by show mulD i j=_;unfold mulD;exact if_pos l,h⟩
theorem zFT (l:j≠0)(h:Q (.int (i.fdiv j),.cl)):EvP (binD .FloorDiv (.int i) (.int j)) Q:=⟨_,by show zMM i j=_;unfold zMM;exact if_neg l,h⟩
theorem zB1 (l:j≠0)(h:Q (.int (i.fmod j),.cl)):EvP (binD .Mod (.int i) (.int j)) Q:=⟨_,if_neg l,h⟩
theorem zSN (l:0<=j/\j<=1000000/\i.natAbs < 2^64)(h:Q (.int (i^j.toNat),.cl)):EvP (binD .Pow (.int i) (.int j)) Q:=⟨_,if_pos l,h⟩
theorem c_lt (h:Q (.bl (decide (i < j)),.cl)):EvP (cmpD .Lt (.int i) (.int j)) Q:=⟨_,rfl,h⟩
theorem c_gt (h:Q (.bl (decide (j < i)),.cl)):EvP (cmpD .Gt (.int i) (.int j)) Q:=⟨_,rfl,h⟩
theorem c_ge (h:Q (.bl (decide (j<=i)),.cl)):EvP (cmpD .GtE (.int i) (.int j)) Q:=⟨_,rfl,h⟩
theorem zSU (i j:Int):EqOk (.int i) (.int j):=⟨by rfl,by rw[toPy];rfl,by rw[toPy];exact zero_le _⟩
theorem zTC (i j:Int):eqb (.int i) (.int j)=decide (i=j):=rfl
theorem zMp (h:Q (.bl (decide (i=j)),.cl)):EvP (cmpD .Eq (.int i) (.int j)) Q:=⟨_,by show eqD id _ _=_;rfl,h⟩
theorem zFG (e:atI ds i=some d)(h:Q (d,.cl)):EvP (ixD (.lst ds) (.int i)) Q:=⟨_,by show (atI ds i).map _=_;rw[e];rfl,h⟩
theorem zF1 (h:Q (.int ds.length,.cl)):EvP (lenD (.lst ds)) Q:=⟨_,rfl,h⟩
end
section
variable {J:Gm}{G:Dst}{Q:Out->Prop}
def Kt (J:Gm)(rest:S)(Q:Out->Prop):Out->Prop
 | .nx G'=>EvP (evSs J rest G') Q
 | o=>Q o
theorem k_nx (h:EvP (evSs J rest G) Q):Kt J rest Q (.nx G):=h
theorem k_rt (h:Q (.rt r)):Kt J rest Q (.rt r):=h
theorem zR3 (h:Q (.nx G)):EvP (evSs J .nil G) Q:=⟨_,rfl,h⟩
theorem zR2 (h:EvP (f G) λo=>match o with | .nx G'=>EvP (g G') Q | o=>Q o):EvP (seqD f g G) Q:=by
 obtain⟨o,e,q⟩:=h;unfold seqD;rw[e];cases o with
 | nx G'=>exact q
 | rt r=>exact⟨_,rfl,q⟩
 | bk G'=>exact⟨_,rfl,q⟩
 | ct G'=>exact⟨_,rfl,q⟩
theorem zDM (h:EvP (evS J a G) (Kt J b Q)):EvP (evSs J (.cons a b) G) Q:=by
 refine zR2 (h.imp λo q=>?_)
 assumption
noncomputable def ownK:Kd->Option Bool
 | .cl=>some false
 | .fr=>some true
 | .dt=>none
theorem zNa (h:EvP (evE J e G) λr=>∃ o,ownK r.2=some o/\Q (.nx (G.set i (some (r.1,o))))):EvP (evS J (.set i e) G) Q:=by
 rw[zPa];obtain⟨⟨d,k⟩,e,o,eo,q⟩:=h;unfold setD;rw[e];cases k with
 | cl=>cases eo;exact⟨_,rfl,q⟩
 | fr=>cases eo;exact⟨_,rfl,q⟩
 | dt=>cases eo
theorem zKb (h:EvP (evE J e G) λr=>∃ o,ownK r.2=some o/\Q (.nx (G.set i (some (r.1,o))))):EvP (evS J (.setC i e) G) Q:=by
 rw[zMS];obtain⟨⟨d,k⟩,e,o,eo,q⟩:=h;unfold setD;rw[e];cases k with
 | cl=>cases eo;exact⟨_,rfl,q⟩
 | fr=>cases eo;exact⟨_,rfl,q⟩
 | dt=>cases eo
theorem zKc (h:EvP (evE J c G) λx=>∃ k,x.1=.bl k/\CB k (EvP (evSs J a G) Q) (EvP (evSs J b G) Q)):EvP (evS J (.ife c a b) G) Q:=by
 rw[zPc];obtain⟨⟨d,f⟩,e,k,ek,q⟩:=h;cases ek;unfold ifD;rw[zNj e];cases k with
 | true=>exact q
 | false =>
  assumption
theorem zNb (h:EvP (evE J e G) λr=>r.2≠.dt/\Q (.rt r)):EvP (evS J (.ret e) G) Q:=by
 rw[zPb];obtain⟨r,e,a,q⟩:=h;exact⟨_,by unfold retD;rw[e];exact if_neg a,q⟩
theorem zQE {Q:List D->Prop}(h:EvP (evE J a G) λx=>∃ j,x.1=.int j/\(-(2^62)<=j/\j < 2^62)/\Q (rngL 0 j.toNat)):EvP (evI J (.r1 a) G) Q:=by
 obtain⟨⟨d,k⟩,e,j,ej,hj,q⟩:=h;cases ej;refine⟨_,?_,q⟩;rw[zSA];unfold zIu;rw[e];exact if_pos hj
theorem zHc {Q:R->Prop}(h:EvP (evI J src G) λzs=>zs.length<=10000/\EvP (zGI (tg1 n) (evC J c) (evE J el) zs (mask none ms G++[none])) λys=>Q (.lst ys,.fr)):EvP (evE J (.comp1 n ms x src c el) G) Q:=by
 obtain⟨zs,e,a,ys,b,q⟩:=h;refine⟨_,?_,q⟩;rw[zKa];unfold zIT
 simp_all
def Kd' (Q:R->Prop):Out->Prop
 | .rt r=>Q r
 | .nx _=>Q (.non,.cl)
 | _=>False
theorem zPU {Q:R->Prop}(c:ds.length=np)(a:np<=nN)(h:EvP (evSs J b (ds.map (λd=>some (d,false))++List.replicate (nN - np) none)) (Kd' Q)):EvP (dFun np nN (evSs J b) ds) Q:=by
 unfold dFun;rw[if_pos ⟨c,a⟩];obtain⟨o,e,q⟩:=h;rw[e];cases o with
 | rt r=>exact⟨_,rfl,q⟩
 | nx _=>exact⟨_,rfl,q⟩
 | bk _=>exact q.elim
 | ct _=>exact q.elim
theorem zSx {Q:R->Prop}(h:Q r):Kd' Q (.rt r):=h
end
section
variable {J:Gm}{G:Dst}{Q:R->Prop}
theorem zR7 (h:EvP (evE J a G) λx=>EvP (evE J b G) λy=>EvP (cmpD op x.1 y.1) λr=>∃ k,r.1=.bl k/\CB k (EvP (evE J c G) λz=>EvP (cmpD op' y.1 z.1) Q) (Q (.bl false,.cl))):EvP (evE J (.chn op op' a b c) G) Q:=by
 rw[zPl];obtain⟨x,e,y,f,⟨d,g⟩,er,k,ek,q⟩:=h;cases ek;unfold chD;rw[e,f];show EvP (match cmpD op x.1 y.1 with | some (.bl true,_)=>(evE J c G).bind λz=>cmpD op' y.1 z.1 | some (.bl false,_)=>some _ | _=>none) Q;rw[er];cases k with
 | true=>exact EvP.bind q
 | false=>unfold CB at q;exact⟨_,rfl,q⟩
end
end DL
end
section
namespace DM
end DM
end
section
namespace DL
open PySem L2
theorem x_bl {P:Bool->Prop}(h:P b):∃ c,((D.bl b,k):R).1=.bl c/\P c:=⟨b,rfl,h⟩
theorem zSV {P:Int->Prop}(h:P i):∃ j,((D.int i,k):R).1=.int j/\P j:=⟨i,rfl,h⟩
theorem x_cl {P:Bool->Prop}(h:P false):∃ o,ownK ((d,Kd.cl):R).2=some o/\P o:=⟨false,rfl,h⟩
theorem n_cl (h:P):((d,Kd.cl):R).2≠.dt/\P:=by grind
end DL
end
open PySem L2 DL
open PySem L2 DL
local macro_rules | `(tactic| walk_at "s")=>`(tactic| simp only [List.set_cons_zero,List.set_cons_succ])
local macro_rules | `(tactic| walk_at "ev")=>`(tactic| first
 | ((with_reducible show EvP (evE _ (DL.E.var _) _) _);first | refine zAm rfl ?_ | refine zTB rfl ?_)
 | (with_reducible first | refine zAd ?_ | refine zPX ?_ | refine zA7 ?_ | refine zCU ?_ | refine zIQ ?_ | refine zR4 ?_ | refine zKO ?_ | refine zC5 ?_ | refine zNZ ?_ | refine zKP ?_ | refine zKR ?_ | refine zKQ ?_ | refine zCV ?_ | refine zAx ?_ | refine zR5 ?_ | refine zNY ?_ | refine zEB ?_ | refine zMs ?_ | refine zSM ?_ | refine c_lt ?_ | refine c_gt ?_ | refine c_ge ?_ | refine zMp ?_ | refine zF1 ?_ | refine zR3 ?_ | refine zDM ?_ | refine zNa ?_ | refine zKb ?_ | refine zKc ?_ | refine zNb ?_ | refine zQE ?_ | refine zHc ?_) | ((with_reducible refine k_nx ?_);try (walk_at "s")) | (with_reducible first | refine k_rt ?_ | refine zSx ?_) | ((with_reducible refine kf_nx ?_);try (walk_at "s")) | (with_reducible first | refine cb_f ?_ | refine x_bl ?_ | refine zSV ?_ | refine x_cl ?_ | refine n_cl ?_)
 | ((with_reducible show EvP (forD (tg1 _) _ (_::_) _) _);refine fo_cons rfl ?_;try (walk_at "s")) | ((with_reducible show EvP (ixD (DL.D.lst (_::_)) (DL.D.int _)) _);refine zFG rfl ?_)
 | ((with_reducible show List.length _<=10000/\_);refine⟨zzb rfl,?_⟩) | ((with_reducible show EvP (evE _ (DL.E.call _ _ _) _) _);refine zBv rfl ?_) | ((with_reducible show EvP (evE _ (DL.E.lend _ _ _) _) _);refine ev_lend rfl ?_) | ((with_reducible show EvP (evE _ (DL.E.glob _ _) _) _);refine zPW rfl ?_)
 | ((with_reducible show EvP (ixD (DL.D.tup _) (DL.D.int _)) _);refine i_tup rfl ?_) | ((with_reducible show EvP (evS _ (DL.S.retOwn _) _) _);refine es_retOwn rfl ?_) | ((with_reducible show EvP (evSs _ (DL.S.frz _ _) _) _);first | refine ex_frz0 rfl ?_ | (refine ex_frz rfl ?_;try (walk_at "s"))))
local macro_rules | `(tactic| walk_at "st")=>`(tactic| simp only [map_cons,map_nil,List.cons_append,List.nil_append,replicate_succ,List.replicate_zero,Nat.reduceSub,append_nil,List.replicate])
section
namespace DL
open PySem L2
end DL
end
section
namespace DL
end DL
end
open PySem L2 DL
local macro_rules | `(tactic| walk_at "w")=>`(tactic| (repeat walk_at "ev"))
open PySem L2 DL
local macro_rules | `(tactic| walk_at "d")=>`(tactic| refine zPU rfl (by decide) ?_)
section
namespace DL
open PySem L2
noncomputable def cel (ns:List Int)(k:Int):Int :=
 if k < (ns.length:Int) then ns.getD k.toNat 0 else
  let seed:=if (0:Int) < (ns.length:Int) then k*7919+(ns.getD (k.fmod (ns.length:Int)).toNat 0).fmod 65537 else k*7919
  let some:=(seed*48271).fmod 65537
  ((some*(some+2*k+1)).fdiv 7).fmod 65521
noncomputable def zPq:S:=.cons (.ife (.cmp .Lt (.var 1) (.len (.var 0))) (.cons (.ret (.ix (.var 0) (.var 1))) .nil) .nil) (.cons (.set 2 (.bin .Mult (.var 1) (.int 7919))) (.cons (.ife (.cmp .Gt (.len (.var 0)) (.int 0)) (.cons (.set 2 (.bin .Add (.var 2) (.bin .Mod (.ix (.var 0) (.bin .Mod (.var 1) (.len (.var 0)))) (.int 65537)))) .nil) .nil) (.cons (.set 3 (.bin .Mod (.bin .Mult (.var 2) (.int 48271)) (.int 65537))) (.cons (.ret (.bin .Mod (.bin .FloorDiv (.bin .Mult (.var 3) (.bin .Add (.bin .Add (.var 3) (.bin .Mult (.int 2) (.var 1))) (.int 1))) (.int 7)) (.int 65521))) .nil))))
noncomputable def scr (ns:List Int):D:=.lst (ns.map D.int)
theorem zM0 {ns:List Int}(b:0<=k)(c:k < (ns.length:Int)):atI (ns.map D.int) k=some (.int (ns.getD k.toNat 0)):=by
 have a:k=((k.toNat:Nat):Int):=by omega
 have q:atI (ns.map D.int) _=some (.int (ns.getD k.toNat 0)):=zCQ (by
  rw[getElem?_map,getD_eq_getElem?_getD,getElem?_eq_getElem (by omega)]
  rfl)
 grind
def zST (F:List D->Option R):Prop:=∀ (ns:List Int) (k:Int) (Q:R->Prop),0<=k->Q (.int (cel ns k),.cl)->EvP (F [scr ns,.int k]) Q
theorem zFf (x:Int)(c:0 < m)(d:m < 2^64):(x.fmod m).natAbs < 2^64:=by
 have a:=x8 x c;have b:=Int.fmod_lt_of_pos x c;omega
theorem zCL {j:Int}(h:j≠0)(a:j.natAbs < 2^64):j≠0:=h
theorem zPp :zST (dFun 2 4 (evSs J zPq)):=λns k Q g h=>by
 (walk_at "d");unfold zPq;have b:((ns.map D.int).length:Int)=(ns.length:Int):=by rw[List.length_map]
 refine zDM (zKc (zCU (zAm rfl (zC5 (zAm rfl ?_)))));show EvP (lenD (.lst (ns.map D.int))) _;(walk_at "w");rw[b];refine zGK (λc=>?_) λc=>?_
 .refine zDM (zNb (zIQ (zAm rfl (zAm rfl ?_))));show EvP (ixD (.lst (ns.map D.int)) (.int k)) _;refine zFG (zM0 g c) ?_;have e:cel ns k=ns.getD k.toNat 0:=by unfold cel;rw[if_pos c]
  rw[e] at h;(walk_at "w");exact h
 .unfold cel at h;rw[if_neg c] at h;(walk_at "w");refine zEJ (.inr (by decide)) ?_;(walk_at "w");refine(show EvP (lenD (.lst (ns.map D.int))) _ from ?_);(walk_at "w");rw[b];refine zGK (λc2=>?_) λc2=>?_
  .rw [if_pos c2] at h;(walk_at "w");refine(show EvP (lenD (.lst (ns.map D.int))) _ from ?_);(walk_at "w");rw[b];refine zB1 (by omega) ?_;refine(show EvP (ixD (.lst (ns.map D.int)) (.int (k.fmod (ns.length:Int)))) _ from ?_);refine zFG (zM0 (x8 k c2) (Int.fmod_lt_of_pos k c2)) ?_;(walk_at "w");refine zB1 (by decide) ?_;(walk_at "w");refine zEJ (.inr (by decide)) ?_;(walk_at "w");refine zB1 (by decide) ?_;(walk_at "w");refine zEJ (.inl (by decide)) ?_;(walk_at "w");refine zEJ (.inl (zFf _ (by decide) (by decide))) ?_;(walk_at "w");refine zFT (zCL (by decide) (by decide)) ?_;(walk_at "w");refine zB1 (by decide) ?_;(walk_at "w");exact h
  .rw [if_neg c2] at h;(walk_at "w");refine zEJ (.inr (by decide)) ?_;(walk_at "w");refine zB1 (by decide) ?_;(walk_at "w");refine zEJ (.inl (by decide)) ?_;(walk_at "w");refine zEJ (.inl (zFf _ (by decide) (by decide))) ?_;(walk_at "w");refine zFT (zCL (by decide) (by decide)) ?_;(walk_at "w");refine zB1 (by decide) ?_;(walk_at "w");exact h
noncomputable def zGW:S:=.cons (.ife (.chn .Lt .Lt (.neg (.int 1000)) (.var 0) (.int 1000)) (.cons (.ret (.bin .Mod (.bin .Mult (.bin .Add (.bin .Mult (.bin .Add (.var 0) (.int 1000)) (.bin .Add (.bin .Add (.var 0) (.int 1000)) (.bin .Mult (.int 37) (.var 1)))) (.bin .Mult (.int 911) (.var 1))) (.int 48271)) (.int 1000003))) .nil) .nil) (.cons (.ret (.var 0)) .nil)
def zK5 (F:List D->Option R):Prop:=∀ (c k:Int) (Q:R->Prop),0<=k->k<=1000->(∀ x:Int,Q (.int x,.cl))->EvP (F [.int c,.int k]) Q
theorem zIj :zK5 (dFun 2 2 (evSs J zGW)):=λc k Q a b h=>by
 (walk_at "d");unfold zGW;(walk_at "st");refine zDM (zKc (zR7 ?_));(walk_at "w");refine zGK (λc1=>?_) λc1=>?_
 ·(walk_at "w");refine zGK (λc2=>?_) λc2=>?_
  ·(walk_at "w");refine zEJ (.inl (by decide)) ?_;(walk_at "w");refine zEJ (.inl (by omega)) ?_;(walk_at "w");refine zEJ (.inl (by decide)) ?_;(walk_at "w");refine zEJ (.inr (by decide)) ?_;(walk_at "w");refine zB1 (by decide) ?_;(walk_at "w");exact h _
  ·(walk_at "w");exact h _
 ·(walk_at "w");exact h _
theorem zJq:∀ is:List Int,PyData.canLayAll0 (toPyL (is.map .int))=true/\PyData.depthAll (toPyL (is.map .int))<=1/\PyData.eqvAll (toPyL (is.map .int)) (toPyL (is.map .int))=true
 | []=>by simp[toPyL,PyData.canLayAll0,PyData.depthAll,PyData.eqvAll]
 | i::is=>by
  have:=zJq is;simp only[map_cons,toPyL,toPy,PyData.canLayAll0,PyData.canLay0,PyData.depthAll,PyData.depth,PyData.eqvAll,PyData.eqv,this];refine⟨by simp,by omega,by simp⟩
theorem zSL {is:List Int}(h:Q (.bl false,.cl)):EvP (cmpD .NotEq (.lst (is.map .int)) (.lst (is.map .int))) Q:=by
 obtain⟨a,c,b⟩:=zJq is;refine ⟨_,by show eqD _ _ _=_;exact if_pos ⟨by rw[toPy,PyData.canLay0];exact a,by rw[toPy,PyData.canLay0];exact a,by rw[toPy,PyData.depth];omega⟩,?_⟩;rw[show eqb (.lst (is.map .int)) (.lst (is.map .int))=true by unfold eqb;rw[toPy,PyData.eqv];exact b];exact h
end DL
end
section
namespace DL
open PySem Spec PyProof.Rows L2
inductive W where
 | dat (d:D) | loc (n:Nat) | tup (l:List W) | obj (c:Str) (ns:List Str) (l:List W) | ob (c:Str) (ns:List Str) (n:Nat) | di (t:Bool) (n:Nat)
noncomputable instance:Inhabited W:=⟨.dat .non⟩
abbrev Mem:=List (List W)
inductive CK where
 | lst | ins (c:Str) (ns:List Str) | dic (t:Bool)
abbrev CA:=Addr×CK
noncomputable def mutK (ns:List Str):Bool:=ns.any λn=>n==("grounds":Str)||n==("shapes":Str)
noncomputable def mutF (fs:List (Str×V)):Bool:=mutK (fs.map (·.1))
noncomputable def fz1:HO->Option HO
 | .tup xs=>some (.tup xs)
 | .frz o u=>some (.frz o u)
 | .ins C dx fs=>if mutF fs=true then none else some (.ins C dx fs)
 | _=>none
noncomputable def fzH (H:Hp):Hp:=λb=>(H b).bind fz1
theorem zRw (h:fz1 o=some u):u=o:=by
 cases o<;>first | cases h;rfl | cases h | skip
 rename_i C a fs;replace h:(if mutF fs=true then none else some _)=some u:=h;grind
theorem zCc :fzH H b=some o<->H b=some o/\fz1 o=some o:=by
 unfold fzH;constructor
 .intro h;obtain⟨u,e,h⟩:=bind_some h;have:=zRw h
  simp_all
 .simp_all
theorem zBc :Same (fzH H) H:=λb o h=>(zCc.mp h).1
theorem zKE (h:H a=some (.tup xs)):fzH H a=some (.tup xs):=zCc.mpr ⟨h,rfl⟩
theorem zD7 (h:H a=some (.frz o u)):fzH H a=some (.frz o u):=zCc.mpr ⟨h,rfl⟩
theorem zHa (h:H a=some (.ins C dx fs))(n:mutF fs=false):fzH H a=some (.ins C dx fs):=zCc.mpr ⟨h,by show (if mutF fs=true then none else some _)=_;rw[n];rfl⟩
theorem zAq (h:Same H H'):Same (fzH H) (fzH H'):=λb o q=>let ⟨q1,q2⟩:=zCc.mp q;zCc.mpr ⟨h _ _ q1,q2⟩
theorem zKD (h:H a=some u)(c:fz1 u=none)(d:fz1 o=none):fzH (upd H a o)=fzH H:=by
 funext b;unfold fzH;by_cases e:b=a
 .subst e;rw[zAJ,h];exact d.trans c.symm
 .rw [zAI e]
theorem zNV (h:H a=some (.lst xs)):fzH (upd H a (.lst ys))=fzH H:=zKD h rfl rfl
theorem zHe (h:zEC gs=true):mutF gs=false:=by
 unfold zEC zKh at h;rw[yx,all_eq_true] at h;unfold mutF mutK;rw[List.any_eq_false];intro n a z;have q:=h.2 n a;rw[Bool.or_eq_true,beq_iff_eq,beq_iff_eq] at z;rcases z with rfl | rfl
 .exact absurd q (by decide)
 .exact absurd q (by decide)
abbrev Kp (H H':Hp):Prop:=Same (fzH H) (fzH H')
theorem Kp.refl (H:Hp):Kp H H:=Same.refl _
theorem zQF {K:W.Frag}(h:SqT K H a xs):SqT K (fzH H) a xs:=by
 rcases h with (h | ⟨o,h⟩) | h
 .exact .inl (.inl (zKE h))
 .exact .inl (.inr ⟨o,zD7 h⟩)
 .exact .inr h
mutual
noncomputable def noL:D->Bool
 | .lst _=>false
 | .tup ds=>noLs ds
 | .lam _ _ ds=>noLs ds
 | .obj _ _ ds=>noLs ds
 | .dct _=>false
 | _=>true
noncomputable def noLs:List D->Bool
 | []=>true
 | d::ds=>noL d&&noLs ds
end
section
variable {K:W.Frag}{H:Hp}
mutual
theorem Den.fz:∀ {d:D} {v:V},noL d=true->Den K H d v->Den K (fzH H) d v
 | .non,_,_,h=>by rw[Den] at h ⊢;exact h
 | .bl _,_,_,h=>by rw[Den] at h ⊢;exact h
 | .int _,_,_,h=>by rw[Den] at h ⊢;exact h
 | .str _,_,_,h=>by rw[Den] at h ⊢;exact h
 | .lst _,_,n,_=>by rw[noL] at n;cases n
 | .tup ds,_,n,h=>by
  rw[noL] at n;rw[Den] at h ⊢;obtain⟨a,vs,h1,h2,h3⟩:=h;exact⟨a,vs,h1,zQF h2,DenL.fz n h3⟩
 | .exc c,_,_,h=>by
  rw[Den] at h ⊢;obtain⟨a,o,u,C,h1,h2,h3⟩:=h;exact⟨a,o,u,C,h1,zD7 h2,h3⟩
 | .dct _,_,n,_=>by rw[noL] at n;cases n
 | .lam _ L ds,_,n,h=>by
  rw[noL] at n;rw[Den] at h ⊢;obtain⟨a,vs,h1,⟨cl,pm,c,ctv,oc,u1,g1,g2,g3,g4,g5,g6⟩,h3⟩:=h;exact⟨a,vs,h1,⟨cl,pm,c,ctv,oc,u1,zD7 g1,zD7 g2,g3,g4,g5,Paired.mapP g6 λ_ _ zy160=>by obtain⟨o,u,k1,k2⟩:=zy160;exact⟨o,u,zD7 k1,k2⟩⟩,DenL.fz n h3⟩
 | .obj _ ns ds,_,n,h=>by
  rw[noL] at n;rw[Den] at h ⊢;obtain⟨a,vs,h1,⟨C,dx,gs,g1,g2⟩,h3⟩:=h;exact⟨a,vs,h1,⟨C,dx,gs,zHa g1 (zHe g2.1),g2⟩,DenL.fz n h3⟩
 | .fn _ _,_,_,h=>by rw[Den] at h ⊢;exact h
theorem DenL.fz:∀ {ds:List D} {vs:List V},noLs ds=true->DenL K H ds vs->DenL K (fzH H) ds vs
 | [],_,_,h=>by rw[DenL] at h ⊢;exact h
 | d::ds,_,n,h=>by
  rw[noLs,yx] at n;rw[DenL] at h ⊢;obtain⟨v,ws,h1,h2,h3⟩:=h;exact⟨v,ws,h1,Den.fz n.1 h2,DenL.fz n.2 h3⟩
end
end
mutual
noncomputable def DenW (K:W.Frag)(H:Hp)(O:List CA):W->V->Prop
 | .dat d,v=>Den K (fzH H) d v
 | .loc n,v=>∃ a,O[n]?=some (a,.lst)/\v=.ref a
 | .ob c ns n,v=>∃ a,O[n]?=some (a,.ins c ns)/\v=.ref a
 | .di t n,v=>∃ a,O[n]?=some (a,.dic t)/\v=.ref a
 | .tup ws,v=>∃ a vs,v=.ref a/\fzH H a=some (.tup vs)/\DenWL K H O ws vs
 | .obj c ns ws,v=>∃ a vs,v=.ref a/\zK6 K (fzH H) c ns a vs/\DenWL K H O ws vs
noncomputable def DenWL (K:W.Frag)(H:Hp)(O:List CA):List W->List V->Prop
 | [],vs=>vs=[]
 | w::ws,vs=>∃ v us,vs=v::us/\DenW K H O w v/\DenWL K H O ws us
end
theorem zA3 {T:List CA}{n:Nat}{a:CA}(h:O[n]?=some a):(O++T)[n]?=some a:=by rw[getElem?_append_left (zzg h).1];exact h
section
variable {K:W.Frag}{H H':Hp}{O:List CA}
mutual
theorem DenW.monoF (e:zCd (fzH H) (fzH H'))(T:List CA):∀ {w:W} {v:V},DenW K H O w v->DenW K H' (O++T) w v
 | .dat _,_,h=>by rw[DenW] at h ⊢;exact h.monoF e
 | .loc n,_,h=>by
  rw[DenW] at h ⊢;obtain⟨a,h1,h2⟩:=h;exact⟨a,zA3 h1,h2⟩
 | .ob c ns n,_,h=>by
  rw[DenW] at h ⊢;obtain⟨a,h1,h2⟩:=h;exact⟨a,zA3 h1,h2⟩
 | .di t n,_,h=>by
  rw[DenW] at h ⊢;obtain⟨a,h1,h2⟩:=h;exact⟨a,zA3 h1,h2⟩
 | .tup ws,_,h=>by
  rw[DenW] at h ⊢;obtain⟨a,vs,h1,h2,h3⟩:=h;exact⟨a,vs,h1,e _ _ h2 (λ_ _ _ z=>nomatch z),DenWL.monoF e T h3⟩
 | .obj c ns ws,_,h=>by
  rw[DenW] at h ⊢;obtain⟨a,vs,h1,h2,h3⟩:=h;exact⟨a,vs,h1,h2.monoF e,DenWL.monoF e T h3⟩
theorem DenWL.monoF (e:zCd (fzH H) (fzH H'))(T:List CA):∀ {ws:List W} {vs:List V},DenWL K H O ws vs->DenWL K H' (O++T) ws vs
 | [],_,h=>by rw[DenWL] at h ⊢;exact h
 | w::ws,_,h=>by
  rw[DenWL] at h ⊢;obtain⟨v,us,h1,h2,h3⟩:=h;exact⟨v,us,h1,DenW.monoF e T h2,DenWL.monoF e T h3⟩
end
theorem DenW.mono (e:Kp H H')(T:List CA)(h:DenW K H O w v):DenW K H' (O++T) w v:=h.monoF (λb o q _=>e b o q) T
theorem DenWL.mono (e:Kp H H')(T:List CA)(h:DenWL K H O ws vs):DenWL K H' (O++T) ws vs:=h.monoF (λb o q _=>e b o q) T
theorem DenW.keep (e:Kp H H')(h:DenW K H O w v):DenW K H' O w v:=by
 have:=h.mono e []
 simp_all
theorem DenWL.keep (e:Kp H H')(h:DenWL K H O ws vs):DenWL K H' O ws vs:=by
 have:=h.mono e []
 simp_all
theorem DenWL.nil:DenWL K H O [] []:=rfl
theorem DenWL.cons (h:DenW K H O w v)(t:DenWL K H O ws vs):DenWL K H O (w::ws) (v::vs):=⟨v,vs,rfl,h,t⟩
theorem DenWL.length:∀ {ws:List W} {vs:List V},DenWL K H O ws vs->ws.length=vs.length
 | [],_,h=>by rw[DenWL] at h;rw[h];rfl
 | _::ws,_,h=>by
  rw[DenWL] at h;obtain⟨v,us,h1,h2,h3⟩:=h;rw[h1,x9,x9,DenWL.length h3]
theorem DenWL.get:∀ {ws:List W} {vs:List V} {i:Nat} {w:W},DenWL K H O ws vs->ws[i]?=some w->∃ v,vs[i]?=some v/\DenW K H O w v
 | [],_,_,_,_,e=>by simp at e
 | x::ws,_,i,w,h,e=>by
  rw[DenWL] at h;obtain⟨v,us,h1,h2,h3⟩:=h;subst h1;cases i with
  | zero=>simp at e;subst e;exact⟨v,by simp,h2⟩
  | succ i =>
   obtain⟨u,a,b⟩:=DenWL.get (i:=i) (w:=w) h3 (by simpa using e);exact⟨u,by simpa using a,b⟩
theorem DenWL.append:∀ {ws xs:List W} {vs us:List V},DenWL K H O ws vs->DenWL K H O xs us->DenWL K H O (ws++xs) (vs++us)
 | [],_,_,_,h,t=>by rw[DenWL] at h;subst h;exact t
 | _::ws,_,_,_,h,t=>by
  rw[DenWL] at h;obtain⟨v,us',h1,h2,h3⟩:=h;subst h1;exact .cons h2 (DenWL.append h3 t)
theorem DenWL.set (a:DenW K H O w v):∀ {ws:List W} {vs:List V} (n:Nat),DenWL K H O ws vs->DenWL K H O (ws.set n w) (vs.set n v)
 | [],_,n,h=>by rw[DenWL] at h;subst h;exact .nil
 | _::ws,_,n,h=>by
  rw[DenWL] at h;obtain⟨u,us,h1,h2,h3⟩:=h;subst h1;cases n with
  | zero=>exact .cons a h3
  | succ n=>exact .cons h2 (DenWL.set a n h3)
theorem DenWL.dats:∀ {ds:List D} {vs:List V},DenL K (fzH H) ds vs->DenWL K H O (ds.map .dat) vs
 | [],_,h=>by rw[DenL] at h;subst h;exact .nil
 | d::ds,_,h=>by
  rw[DenL] at h;obtain⟨v,us,h1,h2,h3⟩:=h;subst h1;exact .cons (by rw[DenW];exact h2) (DenWL.dats h3)
end
noncomputable def kI:W->Option (List Int)
 | .dat (.int i)=>some [i]
 | .tup [.dat (.int i),.dat (.int j)]=>some [i,j]
 | _=>none
noncomputable def encK:List Int->Option Key
 | [i]=>some (Sum.inl i)
 | _=>none
noncomputable def encT:List Int->Option (List Key)
 | [i,j]=>some [Sum.inl i,Sum.inl j]
 | _=>none
noncomputable def zBI {f:Type}(K:W.Frag)(H:Hp)(O:List CA)(enc:List Int->Option f):List W->List (f×V)->Prop
 | [],kvs=>kvs=[]
 | w::ws,kvs=>∃ d ks k u v r,w=.tup [d,u]/\kI d=some ks/\enc ks=some k/\kvs=(k,v)::r/\DenW K H O u v/\zBI K H O enc ws r
theorem zBI.monoF {f:Type}{K:W.Frag}{H H':Hp}{O:List CA}{enc:List Int->Option f}(e:zCd (fzH H) (fzH H'))(T:List CA):∀ {ws:List W} {kvs:List (f×V)},zBI K H O enc ws kvs->zBI K H' (O++T) enc ws kvs:=by
 intro ws;induction ws with
 | nil=>exact λh=>h
 | cons w ws i=>intro _ h;obtain⟨d,ks,k,u,v,r,h1,h2,h3,h4,h5,h6⟩:=h;exact⟨d,ks,k,u,v,r,h1,h2,h3,h4,h5.monoF e T,i h6⟩
theorem zBI.mono {f:Type}{K:W.Frag}{H c:Hp}{O:List CA}{a:List Int->Option f}(e:Kp H c)(T:List CA){ws:List W}{kvs:List (f×V)}(h:zBI K H O a ws kvs):zBI K c (O++T) a ws kvs:=h.monoF (λb o q _=>e b o q) T
def zBB (K:W.Frag)(H:Hp)(O:List CA)(a:Addr)(ws:List W):CK->Prop
 | .lst=>∃ vs,H a=some (.lst vs)/\DenWL K H O ws vs
 | .ins c ns=>∃ C dx gs,H a=some (.ins C dx gs)/\mutF gs=true/\zAp K c C/\gs.map (·.1)=ns/\DenWL K H O ws (gs.map (·.2))
 | .dic false=>∃ kvs,H a=some (.dK kvs)/\zBI K H O encK ws kvs
 | .dic true=>∃ kvs,H a=some (.dT kvs)/\zBI K H O encT ws kvs
theorem zBB.monoF {K:W.Frag}(h:zBB K H O a ws k)(e:zCd (fzH H) (fzH H'))(q:H' a=H a)(T:List CA):zBB K H' (O++T) a ws k:=by
 match k,h with
 | .lst,⟨vs,h1,h2⟩=>exact⟨vs,q.trans h1,h2.monoF e T⟩
 | .ins c ns,⟨C,dx,gs,h1,h2,h3,h4,h5⟩=>exact⟨C,dx,gs,q.trans h1,h2,h3,h4,h5.monoF e T⟩
 | .dic false,⟨kvs,h1,h2⟩=>exact⟨kvs,q.trans h1,h2.monoF e T⟩
 | .dic true,⟨kvs,h1,h2⟩=>exact⟨kvs,q.trans h1,h2.monoF e T⟩
theorem zBB.mono {K:W.Frag}(h:zBB K H O a ws k)(e:Kp H H')(q:H' a=H a)(T:List CA):zBB K H' (O++T) a ws k:=h.monoF (λb o q _=>e b o q) q T
theorem zBB.some {K:W.Frag}(h:zBB K H O a ws k):∃ o,H a=some o/\fz1 o=none:=by
 match k,h with
 | .lst,⟨vs,h1,h2⟩=>exact⟨_,h1,rfl⟩
 | .ins c ns,⟨C,dx,gs,h1,h2,h3,h4,h5⟩=>exact⟨_,h1,if_pos h2⟩
 | .dic false,⟨kvs,h1,h2⟩=>exact⟨_,h1,rfl⟩
 | .dic true,⟨kvs,h1,h2⟩=>exact⟨_,h1,rfl⟩
structure zAD (K:W.Frag)(H:Hp)(O:List CA)(M:Mem):Prop where
 len:O.length=M.length
 nd:(O.map (·.1)).Nodup
 at_:∀ (n:Nat) ws,M[n]?=some ws->∃ p:CA,O[n]?=some p/\zBB K H O p.1 ws p.2
structure MS (K:W.Frag)(H:Hp)(O:List CA)(M:Mem)(σ:St)(G:List (Option W)):Prop where
 cells:zAD K H O M
 len:σ.length=G.length
 get:∀ (i:Nat) w,G[i]?=some (some w)->∃ v,σ[i]?=some (some v)/\DenW K H O w v
section
variable {K:W.Frag}{H H':Hp}{O:List CA}{M:Mem}
theorem zAD.cell (c:zAD K H O M){n:Nat}(d:O[n]?=some (a,k)):∃ ws,M[n]?=some ws/\zBB K H O a ws k:=by
 have b:n < M.length:=by rw[<- c.len];exact(zzg d).1
 obtain _:=c.at_ n _ (getElem?_eq_getElem b)
 simp_all
theorem zAD.cell' (c:zAD K H O M){n:Nat}(d:O[n]?=some (a,k))(e:M[n]?=some ws):zBB K H O a ws k:=by
 obtain⟨b,f,g⟩:=c.cell d;grind
theorem zAD.loc (c:zAD K H O M){n:Nat}(b:O[n]?=some (a,.lst)):∃ ws vs,M[n]?=some ws/\H a=some (.lst vs)/\DenWL K H O ws vs :=
 let ⟨ws,h1,vs,h2⟩:=c.cell b;⟨ws,vs,h1,h2⟩
theorem zAD.loc' (c:zAD K H O M){n:Nat}(b:O[n]?=some (a,.lst))(d:M[n]?=some ws):∃ vs,H a=some (.lst vs)/\DenWL K H O ws vs:=c.cell' b d
theorem zAD.same (h:zAD K H O M)(e:Same H H'):zAD K H' O M :=
 ⟨h.len,h.nd,λn a q=>let ⟨p,h1,h2⟩:=h.at_ n a q;let ⟨_,g,_⟩:=h2.some;⟨p,h1,by have:=h2.mono (zAq e) ((e _ _ g).trans g.symm) [];rwa [append_nil] at this⟩⟩
theorem zAD.out (h:zAD K H O M)(d:H x=some o)(f:fz1 o=some u):x∉O.map (·.1):=λz=>by
 obtain⟨p,b,rfl⟩:=mem_map.mp z;obtain⟨i,a,j⟩:=List.mem_iff_getElem.mp b;obtain⟨e,g,c⟩:=h.at_ i _ (getElem?_eq_getElem (by rw[<- h.len];exact a))
 simp_all
 obtain _:=c.some;grind
theorem zAD.outN (h:zAD K H O M)(e:H x=none):x∉O.map (·.1):=λz=>by
 obtain⟨p,c,rfl⟩:=mem_map.mp z;obtain⟨i,b,g⟩:=List.mem_iff_getElem.mp c;obtain⟨d,f,a⟩:=h.at_ i _ (getElem?_eq_getElem (by rw[<- h.len];exact b));obtain _:=a.some
 simp_all
theorem zAD.more (h:zAD K H O M){a:Addr}{k:CK}{ws:List W}(n:a∉O.map (·.1))(t:zBB K H (O++[(a,k)]) a ws k):zAD K H (O++[(a,k)]) (M++[ws]):=by
 refine⟨by rw[qj,qj,h.len];rfl,?_,λm d q=>?_⟩
 .rw [yq,nodup_append];refine⟨h.nd,by simp,λb g c i=>?_⟩;rw[mem_singleton.mp i];rintro rfl;exact n g
 .by_cases lt:m < M.length
  .rw [getElem?_append_left lt] at q;obtain⟨p,e,f⟩:=h.at_ m d q;exact⟨p,zA3 e,f.mono (Kp.refl H) rfl _⟩
  .rw [getElem?_append_right (by omega)] at q;have b:m - M.length=0:=by
    have:=(zzg q).1
    simp_all
   rw[b] at q;cases q;exact⟨_,by rw[getElem?_append_right (by rw[h.len];omega),h.len,b];rfl,t⟩
theorem zAD.newG (h:zAD K H O M)(e:Same H H')(n:H a=none)(t:zBB K H' (O++[(a,k)]) a ws k):zAD K H' (O++[(a,k)]) (M++[ws]):=(h.same e).more (h.outN n) t
theorem zAD.new (h:zAD K H O M)(e:Same H H')(n:H a=none)(b:H' a=some (.lst vs))(t:DenWL K H' (O++[(a,.lst)]) ws vs):zAD K H' (O++[(a,.lst)]) (M++[ws]):=h.newG e n ⟨vs,b,t⟩
theorem zAD.chgG (h:zAD K H O M)(B:n < M.length)(d:O[n]?=some (a,k))(y:fz1 o=none)(t:Kp H (upd H a o)->zBB K (upd H a o) O a ws k):zAD K (upd H a o) O (M.set n ws)/\Kp H (upd H a o):=by
 have b:Kp H (upd H a o):=by
  obtain⟨_,_,r⟩:=h.cell d;obtain⟨_,l,s⟩:=r.some;show Same _ _;rw[zKD l s y];exact Same.refl _
 refine⟨⟨by rw[length_set];exact h.len,h.nd,λm u q=>?_⟩,b⟩;by_cases e:n=m
 .simp_all
 .rw [getElem?_set_ne e] at q;obtain⟨p,A,z⟩:=h.at_ m u q;have v:p.1≠a:=by
   rintro rfl;have x:(O.map (·.1))[n]?=some p.1:=by rw[getElem?_map,d];rfl
   have w:(O.map (·.1))[m]?=some p.1:=by rw[getElem?_map,A];rfl
   obtain⟨j,g⟩:=zzg x;obtain⟨i,c⟩:=zzg w;have f:=List.pairwise_iff_getElem.mp h.nd;rcases Nat.lt_or_gt_of_ne e with lt | lt
   .exact f n m j i lt (g.trans c.symm)
   .exact f m n i j lt (c.trans g.symm)
  have:=z.mono b (zAI v) []
  simp_all
theorem zAD.change (h:zAD K H O M)(c:n < M.length)(b:O[n]?=some (a,.lst))(t:DenWL K H O ws vs):zAD K (upd H a (.lst vs)) O (M.set n ws):=(h.chgG c b rfl λkp=>⟨vs,zAJ,t.keep kp⟩).1
theorem MS.next {σ:St}(h:MS K H O M σ G)(e:Kp H H')(c:zAD K H' (O++T) M'):MS K H' (O++T) M' σ G :=
 ⟨c,h.len,λi w q=>let ⟨v,q1,q2⟩:=h.get i w q;⟨v,q1,q2.mono e T⟩⟩
theorem MS.set {σ:St}(h:MS K H O M σ G)(b:DenW K H O w v):MS K H O M (σ.set i (some v)) (G.set i (some w)):=by
 refine⟨h.cells,by rw[length_set,length_set];exact h.len,λj x q=>?_⟩;rcases zAS q with ⟨rfl,z,a⟩ | ⟨ne,z⟩
 .cases z;exact⟨v,zBL (by rw[h.len];exact a),b⟩
 .obtain _:=h.get j x z
  simp_all
end
noncomputable def datA:List Str->List W->List (Str×D)
 | n::ns,.dat d::ws=>(n,d)::datA ns ws
 | _::ns,_::ws=>datA ns ws
 | _,_=>[]
noncomputable def dobj (c:Str)(ns:List Str)(ws:List W):D:=.obj c ((datA ns ws).map (·.1)) ((datA ns ws).map (·.2))
theorem zHg {K:W.Frag}{gs:List (Str×V)}:∀ {ns:List Str} {ws:List W} {vs:List V},(ns.map λn=>gs.lookup n)=vs.map some->DenWL K H O ws vs->∃ us,(((datA ns ws).map (·.1)).map λn=>gs.lookup n)=us.map some/\DenL K (fzH H) ((datA ns ws).map (·.2)) us
 | [],ws,_,_,_=>⟨[],by unfold datA;rfl,by unfold datA;exact .nil⟩
 | _::_,[],_,_,_=>⟨[],rfl,.nil⟩
 | n::ns,w::ws,vs,h,t=>by
  rw[DenWL] at t;obtain⟨v,us,rfl,t1,t2⟩:=t;simp only[map_cons,List.cons.injEq] at h;obtain⟨zs,z1,z2⟩:=zHg h.2 t2;cases w with
  | dat d =>
   rw[DenW] at t1;refine⟨v::zs,?_,.cons t1 z2⟩;show gs.lookup n::_=some v::_;rw[h.1,<- z1]
  | loc _=>exact⟨zs,z1,z2⟩
  | tup _=>exact⟨zs,z1,z2⟩
  | ob _ _ _=>exact⟨zs,z1,z2⟩
  | di _ _=>exact⟨zs,z1,z2⟩
  | obj _ _ _=>exact⟨zs,z1,z2⟩
theorem zHf {K:W.Frag}(h:DenW K H O (.obj c ns ws) v):Den K (fzH H) (dobj c ns ws) v:=by
 obtain⟨a,l,rfl,⟨C,i,d,e,k,g,f⟩,h5⟩:=h;obtain⟨us,j,b⟩:=zHg f h5;exact⟨a,us,rfl,⟨C,i,d,e,k,g,j⟩,b⟩
mutual
noncomputable def sbW (f:Nat->Option D):W->Option D
 | .dat d=>some d
 | .loc n=>f n
 | .tup ws=>(sbL f ws).map .tup
 | .obj c ns ws=>some (dobj c ns ws)
 | .ob _ _ _=>none
 | .di _ _=>none
noncomputable def sbL (f:Nat->Option D):List W->Option (List D)
 | []=>some []
 | w::ws=>(sbW f w).bind λd=>(sbL f ws).map λds=>d::ds
end
noncomputable def drN (M:Mem):Nat->Nat->Option D
 | 0,_=>none
 | k+1,n=>(M[n]?).bind λws=>(sbL (drN M k) ws).map .lst
noncomputable def drW (M:Mem)(w:W):Option D:=sbW (drN M 6) w
noncomputable def drS (M:Mem)(G:List (Option W)):Dst:=G.map λo=>o.bind λw=>(drW M w).map λd=>(d,false)
section
variable {K:W.Frag}{H:Hp}{O:List CA}{M:Mem}
mutual
theorem zM1 {f:Nat->Option D}(hf:∀ n d a,f n=some d->O[n]?=some (a,.lst)->Den K H d (.ref a)):∀ {w:W} {v:V} {d:D},DenW K H O w v->sbW f w=some d->Den K H d v
 | .dat x,v,d,h,e=>by
  rw[sbW] at e;cases e;rw[DenW] at h;exact h.mono zBc
 | .loc n,v,d,h,e=>by
  rw[sbW] at e;rw[DenW] at h;obtain⟨a,h1,rfl⟩:=h;exact hf n d a e h1
 | .tup ws,v,d,h,e=>by
  rw[sbW] at e;obtain⟨ds,e1,rfl⟩:=yj.mp e;rw[DenW] at h;obtain⟨a,vs,rfl,h2,h3⟩:=h;rw[Den];exact⟨a,vs,rfl,SqT.of (zBc _ _ h2),sb_denL hf h3 e1⟩
 | .obj c ns ws,v,d,h,e=>by
  rw[sbW] at e;cases e;exact(zHf h).mono zBc
 | .ob _ _ _,_,_,_,e=>by rw[sbW] at e;cases e
 | .di _ _,_,_,_,e=>by rw[sbW] at e;cases e
theorem sb_denL {f:Nat->Option D}(hf:∀ n d a,f n=some d->O[n]?=some (a,.lst)->Den K H d (.ref a)):∀ {ws:List W} {vs:List V} {ds:List D},DenWL K H O ws vs->sbL f ws=some ds->DenL K H ds vs
 | [],_,_,h,e=>by
  rw[sbL] at e;cases e;rw[DenWL] at h;subst h;exact .nil
 | w::ws,_,_,h,e=>by
  rw[sbL] at e;obtain⟨d,e1,e⟩:=bind_some e;obtain⟨ds,e2,rfl⟩:=yj.mp e;rw[DenWL] at h;obtain⟨v,us,rfl,h2,h3⟩:=h;exact .cons (zM1 hf h2 e1) (sb_denL hf h3 e2)
end
theorem zGx (c:zAD K H O M):∀ (k n:Nat) (d:D) (a:Addr),drN M k n=some d->O[n]?=some (a,.lst)->Den K H d (.ref a)
 | 0,_,_,_,e,_=>by cases e
 | k+1,n,d,a,e,ha=>by
  obtain⟨ws,e1,e⟩:=bind_some e;obtain⟨ds,e2,rfl⟩:=yj.mp e;obtain⟨vs,q2,q3⟩:=c.loc' ha e1;rw[Den];exact⟨a,vs,rfl,SqL.of q2,sb_denL (zGx c k) q3 e2⟩
theorem zKe (c:zAD K H O M)(h:DenW K H O w v)(e:drW M w=some d):Den K H d v:=zM1 (zGx c 6) h e
theorem zKf {σ:St}(h:MS K H O M σ G):DS K H [] σ (drS M G):=by
 refine⟨by unfold drS;rw[List.length_map];exact h.len,λa z=>absurd z (by simp),λi d o q=>?_,λi j d e a c g _ _=>?_⟩
 .unfold drS at q;rw[getElem?_map] at q;obtain⟨x,f,b⟩:=yj.mp q;obtain⟨w,rfl,b⟩:=bind_some b;obtain⟨m,l,k⟩:=yj.mp b;cases k;obtain⟨v,c,g⟩:=h.get i w f;exact⟨v,c,.of_den (zKe h.cells g l)⟩
 .unfold drS at c;rw[getElem?_map] at c;obtain⟨x,f,b⟩:=yj.mp c;obtain _:=bind_some b
  simp_all
end
structure Mst where
 G:List (Option W)
 M:Mem
abbrev MR:=W×Mem
def gM (K:W.Frag)(g:Mst->Option MR):TE:=fun σ H Q=>∃ O G M r,MS K H O M σ G/\g ⟨G,M⟩=some r/\∀ v H' T,Kp H H'->zAD K H' (O++T) r.2->DenW K H' (O++T) r.1 v->Q v H'
def GM (X:Cx)(e:Expr)(g:Mst->Option MR):Prop:=PE X e (gM X.K g)
noncomputable def zEK (r:R)(M:Mem):Option MR:=match r with
 | (d,.cl)=>if noL d=true then some (.dat d,M) else none
 | (.lst es,.fr)=>if noLs es=true then some (.loc M.length,M++[es.map .dat]) else none
 | _=>none
noncomputable def zDz (f:Dst->Option R):Mst->Option MR:=λs=>(f (drS s.M s.G)).bind λr=>zEK r s.M
theorem zFV {K:W.Frag}(c:zAD K H O M)(e:Same H H')(h:RV K H H' [] r v)(q:zEK r M=some z):∃ T,zAD K H' (O++T) z.2/\DenW K H' (O++T) z.1 v:=by
 unfold zEK at q;split at q
 .rename_i d;by_cases n:noL d=true
  .rw [if_pos n] at q;cases q;refine⟨[],by rw[append_nil];exact c.same e,?_⟩;rw[DenW];exact h.fz n
  .rw [if_neg n] at q;cases q
 .rename_i es;by_cases n:noLs es=true
  .rw [if_pos n] at q;cases q;obtain⟨a,j,i,rfl,b,_,f,g,t⟩:=h;cases b;refine⟨[(a,.lst)],c.new e f g (DenWL.dats ((t.mono zAi).fz n)),?_⟩;rw[DenW];exact⟨a,by show _[M.length]?=_;rw[getElem?_append_right (by rw[c.len];omega),c.len,sub_self];rfl,rfl⟩
  .rw [if_neg n] at q;cases q
 .cases q
theorem zD5 (h:GE X e f):GM X e (zDz f):=h.imp fun σ H Q zz92=>by
 obtain⟨O,G,M,z,b,q,c⟩:=zz92;obtain⟨r,g,q⟩:=bind_some q;refine⟨[],drS M G,r,zKf b,g,λv j a r1=>?_⟩;obtain⟨T,i,d⟩:=zFV b.cells a r1 q;exact c v j T (zAq a) i d
section
variable {X:Cx}
noncomputable def varM (i:Nat):Mst->Option MR:=λs=>match s.G[i]? with
 | some (some w)=>some (w,s.M)
 | _=>none
theorem zRY (g:X.N[i]?=some x)(f:Vis X.env.scope x)(d:(x==("__debug__":Str))=false)(a:(x==("__classdict__":Str))=false):GM X (.Name x pos) (varM i):=by
 refine(zDR g f d a).imp fun σ H Q zz93=>?_
 obtain⟨O,G,M,r,b,q,c⟩:=zz93;unfold varM at q;split at q
 .rename_i w e;cases q;obtain⟨v,h,j⟩:=b.get i w e;exact⟨v,h,c v H [] (Kp.refl H) (by rw[append_nil];exact b.cells) (by simp_all)⟩
 .cases q
abbrev MA:=List W×Mem
def gAM (K:W.Frag)(g:Mst->Option MA):TA:=fun σ H Q=>∃ O G M r,MS K H O M σ G/\g ⟨G,M⟩=some r/\∀ vs H' T,Kp H H'->zAD K H' (O++T) r.2->DenWL K H' (O++T) r.1 vs->Q vs H'
def GAM (X:Cx)(es:List Expr)(g:Mst->Option MA):Prop:=PA X es (gAM X.K g)
noncomputable def nilM:Mst->Option MA:=λs=>some ([],s.M)
theorem zPS:GAM X [] nilM:=zAs.imp fun σ H Q zz94=>by
 obtain⟨O,G,M,r,a,q,c⟩:=zz94;cases q;exact c [] H [] (Kp.refl H) (by rw[append_nil];exact a.cells) .nil
noncomputable def zMk (f:Mst->Option MR)(g:Mst->Option MA):Mst->Option MA:=λs=>(f s).bind λw=>(g ⟨s.G,w.2⟩).bind λws=>some (w.1::ws.1,ws.2)
theorem zMH (p:GM X e f)(o:GAM X es g)(n:starEach (e::es) X.env=(false,eval e X.env)::starEach es X.env):GAM X (e::es) (zMk f g):=by
 refine(zAR p o n).imp fun σ H Q zz95=>?_
 obtain⟨O,G,M,r,a,q,c⟩:=zz95;obtain⟨w,t,q⟩:=bind_some q;obtain⟨s,l,q⟩:=bind_some q;cases q;refine⟨O,G,M,w,a,t,λv x h d k j=>⟨O++h,G,w.2,s,a.next d k,l,λvs m b i v u=>?_⟩⟩;refine c _ m (h++b) (d.trans i) (by simp_all) (.cons ?_ ?_)
 .rw [<- qJ];exact j.mono i b
 .simp_all
noncomputable def lstM (g:Mst->Option MA):Mst->Option MR:=λs=>(g s).bind λr=>if r.1.length<=10000 then some (.loc r.2.length,r.2++[r.1]) else none
noncomputable def tupM (g:Mst->Option MA):Mst->Option MR:=λs=>(g s).bind λr=>if r.1.length<=10000 then some (.tup r.1,r.2) else none
theorem zFA {K:W.Frag}(c:zAD K H O M):DenW K H' (O++[(a,.lst)]) (.loc M.length) (.ref a):=by
 exact⟨a,by rw[getElem?_append_right (by rw[c.len];omega),c.len,sub_self];rfl,rfl⟩
abbrev MF:=List W->Mem->Option MR
def spM (K:W.Frag)(F:MF):Sp:=λvs H Q _=>∃ O M ws r,zAD K H O M/\DenWL K H O ws vs/\F ws M=some r/\∀ v H' T,Kp H H'->zAD K H' (O++T) r.2->DenW K H' (O++T) r.1 v->Q v H'
noncomputable def zKw (F:MF)(g:Mst->Option MA):Mst->Option MR:=λs=>(g s).bind λws=>F ws.1 ws.2
theorem zPJ {k:Nat}{f:Addr}{fd:FuncData}{ps:List Str}{F:MF}{x:Str}{p pos:Pos}{e:Expr}{es:List Expr}{g:Mst->Option MA}(i:FnOk X.prog X.w X.K X.mg X.base CX0 k f fd ps (spM X.K F))(u:Room k X.A)(s:Gl X x)(B:X.mg x=some (.ref f))
  (n:W.keepIn X.K (.ref f)=true) (w:zBJ X.K fd ps []) (o:GAM X (e::es) g) (a:(x==("__debug__":Str))=false) (m:starEach (e::es) X.env=(false,eval e X.env)::starEach es X.env) (b:∀ pos,(backTo pos (starEach es X.env)).any (·.1)=false) :
  GM X (.Call (.Name x p) (e::es) [] pos) (zKw F g) :=
 (zI9 i u s B n w .nil zH2 o a m (b pos)).imp λ_ _ _ q=>(by obtain⟨O,G,M,r,t,q,c⟩:=q;obtain⟨d,A,q⟩:=bind_some q;refine⟨O,G,M,d,t,A,λvs D T j y C=>?_⟩;simp;exact⟨O++T,d.2,d.1,r,y,C,q,λv l z h E H=>c v l (T++z) (j.trans h) (by simp_all) (by simp_all)⟩)
noncomputable def zIG (F:List D->Option R):MF:=λws M=>(sbL (drN M 6) ws).bind λds=>(F ds).bind λr=>zEK r M
theorem FnOk.lift {K:W.Frag}(h:FnOk P w K mg base CX0 k f fd ps (spD K F)):FnOk P w K mg base CX0 k f fd ps (spM K (zIG F)) :=
 h.imp λvs H Q E a=>by
  obtain⟨O,M,s,r,c,d,q,n⟩:=a;obtain⟨g,m,q⟩:=bind_some q;obtain⟨z,i,q⟩:=bind_some q;refine⟨[],g,z,λa l=>absurd l (by simp),by rw[zBm];exact sb_denL (zGx c 6) d m,i,?_,λv j e r1=>?_⟩
  .intro b;unfold zEK at q;split at q
   .cases b
   .cases b
   .cases q
  .obtain ⟨T,o,p⟩:=zFV c e r1 q;exact n v j T (zAq e) o p
noncomputable def opM (o:D->D->Option R)(x y:W)(M:Mem):Option MR:=(drW M x).bind λa=>(drW M y).bind λb=>(o a b).bind λr=>zEK r M
noncomputable def twoM (f g:Mst->Option MR)(o:W->W->Mem->Option MR):Mst->Option MR:=λs=>(f s).bind λx=>(g ⟨s.G,x.2⟩).bind λy=>o x.1 y.1 y.2
def OpW (K:W.Frag)(r:R2)(o:W->W->Mem->Option MR):Prop :=
 ∀ (H:Hp) (O:List CA) (M:Mem) (x y:W) (z:MR) (vx vy:V) (Q:VK),zAD K H O M->o x y M=some z->DenW K H O x vx->DenW K H O y vy->(∀ v H' T,Kp H H'->zAD K H' (O++T) z.2->DenW K H' (O++T) z.1 v->Q v H')->r vx vy H Q
theorem zND {K:W.Frag}(h:OpD K r o):OpW K r (opM o):=λH O M x y z j l Q c e g t n=>by
 obtain⟨a,m,e⟩:=bind_some e;obtain⟨b,s,e⟩:=bind_some e;obtain⟨q,i,p⟩:=bind_some e;refine h [] H a b q j l Q (λa z=>absurd z (by simp)) i (.inl (zKe c g m)) (.inl (zKe c t s)) λv f d r1=>?_
 obtain⟨T,u,k⟩:=zFV c d r1 p;exact n v f T (zAq d) u k
theorem zE5 (h:OpW X.K r o){σ:St}(q:gM X.K (twoM f g o) σ H Q):tOp r (gM X.K f) (gM X.K g) σ H Q:=by
 obtain⟨O,G,M,z,d,q,c⟩:=q;obtain⟨x,l,q⟩:=bind_some q;obtain⟨y,w,q⟩:=bind_some q;refine⟨O,G,M,x,d,l,λvx D i b t u=>⟨O++i,G,x.2,y,d.next b t,w,λvy p a e k n=>?_⟩⟩;refine h p _ y.2 x.1 y.1 z vx vy Q k q (u.mono e a) n λv m j s A E=>c v m (i++a++j) (b.trans (e.trans s)) ?_ ?_
 .grind
 .simp_all
noncomputable def ixW (x y:W)(M:Mem):Option MR:=match x,y with
 | .loc n,.dat (.int i)=>(M[n]?).bind λws=>(atI ws i).map λw=>(w,M)
 | .tup ws,.dat (.int i)=>(atI ws i).map λw=>(w,M)
 | .dat (.tup ds),.dat (.int i)=>(atI ds i).map λd=>(.dat d,M)
 | .dat (.lst ds),.dat (.int i)=>(atI ds i).map λd=>(.dat d,M)
 | _,_=>none
theorem DenWL.atI {K:W.Frag}(h:DenWL K H O ws vs)(e:atI ws i=some w):∃ v,L2.atI vs i=some v/\DenW K H O w v:=by
 unfold L2.atI at e ⊢;obtain⟨j,e1,e2⟩:=bind_some e;obtain⟨v,q1,q2⟩:=h.get e2;refine⟨v,?_,q2⟩;rw[<- h.length,e1];exact q1
theorem zQg:OpW X.K (λx y H Q=>rIxL X.K x y H Q\/rIxT X.K x y H Q) ixW:=λH O M x y z D E Q c e g f n=>by
 have h:∀ {w:W} {v:V},DenW X.K H O w v->z=(w,M)->Q v H:=λ{w v} d B=>by
  subst B;exact n v H [] (Kp.refl H) (by rw[append_nil];exact c) (by rw[append_nil];exact d)
 unfold ixW at e;split at e
 .rename_i m i;obtain⟨u,A,e⟩:=bind_some e;obtain⟨w,l,e⟩:=yj.mp e;rw[DenW] at g;rw[DenW] at f;rw[Den] at f;obtain⟨b,s,rfl⟩:=g;obtain⟨j,r,t⟩:=c.loc' s A;obtain⟨v,o,k⟩:=t.atI l;exact .inl ⟨_,j,i,v,rfl,f,SqL.of r,o,h k e.symm⟩
 .rename_i u i;obtain⟨w,l,e⟩:=yj.mp e;rw[DenW] at g;rw[DenW] at f;rw[Den] at f;obtain⟨a,j,rfl,q,p⟩:=g;obtain⟨v,o,k⟩:=p.atI l;exact .inr ⟨a,j,i,v,rfl,f,SqT.of (zBc _ _ q),o,h k e.symm⟩
 .rename_i C i;obtain⟨d,l,e⟩:=yj.mp e;rw[DenW] at g;rw[DenW] at f;rw[Den] at g;rw[Den] at f;obtain⟨a,j,rfl,q,p⟩:=g;obtain⟨v,o,k⟩:=p.atI l;exact .inr ⟨a,j,i,v,rfl,f,Same.tupS zBc q,o,h (w:=.dat d) (by rw[DenW];exact k) e.symm⟩
 .rename_i C i;obtain⟨d,l,e⟩:=yj.mp e;rw[DenW] at g;rw[DenW] at f;rw[Den] at g;rw[Den] at f;obtain⟨a,j,rfl,q,p⟩:=g;obtain⟨v,o,k⟩:=p.atI l;exact .inl ⟨a,j,i,v,rfl,f,zBc.seq q,o,h (w:=.dat d) (by rw[DenW];exact k) e.symm⟩
 .cases e
end
section
variable {X:Cx}
abbrev MB:=Bool×Mem
def gBM (K:W.Frag)(g:Mst->Option MB):TT:=fun σ H Q=>∃ O G M r,MS K H O M σ G/\g ⟨G,M⟩=some r/\∀ H' T,Kp H H'->zAD K H' (O++T) r.2->Q r.1 H'
def GTM (X:Cx)(e:Expr)(g:Mst->Option MB):Prop:=PT X e (gBM X.K g)
def GWM (X:Cx)(e:Expr)(g:Mst->Option MB):Prop:=PW X e (gBM X.K g)
noncomputable def asBM (f:Mst->Option MR):Mst->Option MB:=λs=>match f s with
 | some (.dat (.bl b),M)=>some (b,M)
 | _=>none
theorem zK2 (h:asBM f s=some r):f s=some (.dat (.bl r.1),r.2):=by
 unfold asBM at h;split at h
 .rename_i e;cases h;omega
 .cases h
theorem zGu {σ:St}(q:gBM X.K (asBM f) σ H Q):gM X.K f σ H λx H'=>∃ k,x=.bl k/\Q k H':=by
 obtain⟨O,G,M,r,g,e,c⟩:=q;refine⟨O,G,M,_,g,zK2 e,λv H' T a b d=>⟨r.1,?_,c H' T a b⟩⟩;exact d
noncomputable def zFB (k:Dst->Option Bool):Mst->Option MB:=λs=>(k (drS s.M s.G)).map λb=>(b,s.M)
theorem zFI (h:GT X e k):GTM X e (zFB k):=h.imp fun σ H Q zz99=>by
 obtain⟨O,G,M,r,a,q,c⟩:=zz99;obtain⟨b,f,g⟩:=yj.mp q;cases g;exact⟨[],drS M G,b,zKf a,f,λH' d=>c H' [] (zAq d) (by rw[append_nil];exact a.cells.same d)⟩
theorem zOy (h:GM X e f)(a:∀ whole,isTrue e X.env whole=(do let v<-whole;standAt e.pos;holding [v] (truthy v))):GTM X e (asBM f) :=
 (zM4 h a).imp λ_ _ _ q=>zGu q
noncomputable def andB (f g:Mst->Option MB):Mst->Option MB:=λs=>(f s).bind λr=>if r.1=true then g ⟨s.G,r.2⟩ else some (false,r.2)
noncomputable def orB (f g:Mst->Option MB):Mst->Option MB:=λs=>(f s).bind λr=>if r.1=true then some (true,r.2) else g ⟨s.G,r.2⟩
noncomputable def notB (f:Mst->Option MB):Mst->Option MB:=λs=>(f s).map λr=>(!r.1,r.2)
theorem zOz (h:GTM X a f):GTM X (.UnaryOp .Not a pos) (notB f) :=
 (zM5 h).imp fun σ H Q zz100=>by
  obtain⟨O,G,M,r,e,q,c⟩:=zz100;obtain⟨z,b,d⟩:=yj.mp q;cases d;exact⟨O,G,M,z,e,b,λH' T g i=>c H' T g i⟩
theorem zOx (l:GTM X a f)(j:GWM X (.BoolOp .And (b::rest) pos) g):GWM X (.BoolOp .And (a::b::rest) pos) (andB f g):=by
 refine PW.imp (zM3 l j) fun σ H Q zz101=>?_
 obtain⟨O,G,M,r,e,q,c⟩:=zz101;obtain⟨⟨b1,n⟩,e1,q⟩:=bind_some q;cases b1 with
 | true =>
  rw[if_pos rfl] at q;refine⟨O,G,M,_,e,e1,λH1 T d h=>iteT ?_⟩;exact⟨O++T,G,n,r,e.next d h,q,λH2 i m k=>c H2 (T++i) (d.trans m) (by rw[<- qJ];exact k)⟩
 | false =>
  rw[if_neg qX] at q;cases q;exact⟨O,G,M,_,e,e1,λH1 T d h=>iteF (c H1 T d h)⟩
theorem zRL (n:GTM X a f)(l:GWM X (.BoolOp .Or (b::rest) pos) g):GWM X (.BoolOp .Or (a::b::rest) pos) (orB f g):=by
 refine PW.imp (zQU n l) fun σ H Q zz102=>?_
 obtain⟨O,G,M,r,h,q,c⟩:=zz102;obtain⟨⟨b1,k⟩,e1,q⟩:=bind_some q;cases b1 with
 | true =>
  rw[if_pos rfl] at q;cases q;exact⟨O,G,M,_,h,e1,λH1 T d e=>iteT (c H1 T d e)⟩
 | false =>
  rw[if_neg qX] at q;refine⟨O,G,M,_,h,e1,λH1 T d e=>iteF ?_⟩;exact⟨O++T,G,k,r,h.next d e,q,λH2 i m j=>c H2 (T++i) (d.trans m) (by rw[<- qJ];exact j)⟩
inductive OutM where
 | nx (s:Mst) | rt (r:MR) | bk (s:Mst) | ct (s:Mst)
def zTH (K:W.Frag)(H0:Hp)(α0:List CA)(o:OutM)(E:Ends):Prop:=match o with
 | .nx s=>∀ T O1 H',MS K H' (α0++T) s.M O1 s.G->Kp H0 H'->E.nx O1 H'
 | .bk s=>∀ T O1 H',MS K H' (α0++T) s.M O1 s.G->Kp H0 H'->E.bk O1 H'
 | .ct s=>∀ T O1 H',MS K H' (α0++T) s.M O1 s.G->Kp H0 H'->E.ct O1 H'
 | .rt r=>∀ T v H',zAD K H' (α0++T) r.2->DenW K H' (α0++T) r.1 v->Kp H0 H'->E.rt v H'
def gSM (K:W.Frag)(H0:Hp)(α0:List CA)(g:Mst->Option OutM):TS:=λE σ H=>∃ T s o,MS K H (α0++T) s.M σ s.G/\Kp H0 H/\g s=some o/\zTH K H0 α0 o E
def GSM (X:Cx)(st:Stmt)(g:Mst->Option OutM):Prop:=∀ H0 α0,PS X st (gSM X.K H0 α0 g)
def GSsM (X:Cx)(st:List Stmt)(g:Mst->Option OutM):Prop:=∀ H0 α0,PSs X st (gSM X.K H0 α0 g)
noncomputable def seqM (f g:Mst->Option OutM):Mst->Option OutM:=λs=>(f s).bind λo=>match o with
 | .nx s'=>g s'
 | o=>some o
theorem zCl:GSsM X [] (λs=>some (.nx s)):=λH0 c=>zGa.imp λE σ H a=>by
 obtain⟨T,s,o,b,k,e,p⟩:=a;cases e;exact p T σ H b k
theorem zBS {st:Stmt}(n:GSM X st f)(m:GSsM X rest g):GSsM X (st::rest) (seqM f g):=λH0 h=>(zEz (n H0 h) (m H0 h)).imp λE σ H a=>by
 obtain⟨T,s,o,i,k,e,p⟩:=a;obtain⟨d,q,e⟩:=bind_some e;refine⟨T,s,d,i,k,q,?_⟩;cases d with
 | nx c=>exact λT' u t b j=>⟨T',c,o,b,j,e,p⟩
 | rt r=>cases e;exact p
 | bk c=>cases e;exact p
 | ct c=>cases e;exact p
noncomputable def setM (i:Nat)(f:Mst->Option MR):Mst->Option OutM:=λs=>(f s).bind λr=>some (.nx ⟨s.G.set i (some r.1),r.2⟩)
theorem zFJ (n:X.N.Nodup)(v:X.N[i]?=some x)(w:Loc X.env.scope x)(h:GM X e f)(u:swapsWith e (some (.Name x pos')) pos.line X.env=pure false)(m:X.fn x=true\/X.env.scope.names.lookup x=some .local) :
  GSM X (.Assign [.Name x pos'] e pos) (setM i f):=λH0 y=>(zM6 n v w h u m).imp λE σ H a=>by
 obtain⟨T,s,o,c,k,e,p⟩:=a;obtain⟨r,g,e⟩:=bind_some e;cases e;refine⟨y++T,s.G,s.M,r,c,g,λv t q d j l=>?_⟩;have b:=(c.next d j).set (i:=i) l;rw[qJ] at b;exact p (T++q) _ t b (k.trans d)
noncomputable def zMc (f:Mst->Option MR):Mst->Option OutM:=λs=>(f s).bind λr=>some (.nx ⟨s.G,r.2⟩)
theorem zL7 (h:GM X e f)(m:swapsWith e none pos.line X.env=pure false):GSM X (.Expr e pos) (zMc f):=λH0 j=>(zDB h m).imp λE σ H a=>by
 obtain⟨T,s,o,c,k,e,p⟩:=a;obtain⟨r,l,e⟩:=bind_some e;cases e;refine⟨j++T,s.G,s.M,r,c,l,λv g i d n q=>?_⟩;have b:=c.next d n;rw[qJ] at b;exact p (T++i) _ g b (k.trans d)
noncomputable def retM (f:Mst->Option MR):Mst->Option OutM:=λs=>(f s).bind λr=>some (.rt r)
theorem zFK (h:GM X e f):GSM X (.Return (some e) pos) (retM f):=λH0 i=>(zIz h).imp λE σ H a=>by
 obtain⟨T,s,o,g,k,e,p⟩:=a;obtain⟨r,j,e⟩:=bind_some e;cases e;refine⟨i++T,s.G,s.M,r,g,j,λv m d l b c=>?_⟩;rw[qJ] at b c;exact p (T++d) v m b c (k.trans l)
theorem zL4 :GSM X (.Return none pos) (λs=>some (.rt (.dat .non,s.M))):=λH0 c=>zOC.imp λE σ H a=>by
 obtain⟨T,s,o,b,k,e,p⟩:=a;cases e;exact p T .non H b.cells (by rw[DenW,Den]) k
theorem zF9 {st:Stmt}:GSM X st (λ_=>none):=λH0 b=>(zE0 (X:=X) (st:=st)).imp λE σ H a=>by obtain⟨T,s,o,c,k,e,p⟩:=a;cases e
noncomputable def ifM (c:Mst->Option MB)(f g:Mst->Option OutM):Mst->Option OutM:=λs=>(c s).bind λb=>if b.1=true then f ⟨s.G,b.2⟩ else g ⟨s.G,b.2⟩
theorem zJy (r:GTM X c k)(v:GSsM X a f)(u:GSsM X b g):GSM X (.If c a b pos) (ifM k f g):=λH0 i=>(zQV r (v H0 i) (u H0 i)).imp λE σ H h=>by
 obtain⟨T,s,o,n,l,e,p⟩:=h;obtain⟨⟨b1,w⟩,e1,e⟩:=bind_some e;refine⟨i++T,s.G,s.M,_,n,e1,λH1 m j q=>?_⟩;have d:=n.next j q;rw[qJ] at d;cases b1 with
 | true =>
  rw[if_pos rfl] at e;exact iteT ⟨T++m,_,o,d,l.trans j,e,p⟩
 | false =>
  rw[if_neg qX] at e;exact iteF ⟨T++m,_,o,d,l.trans j,e,p⟩
noncomputable def appM (t f:Mst->Option MR):Mst->Option OutM:=λs=>(t s).bind λx=>match x.1 with
 | .loc n=>(f ⟨s.G,x.2⟩).bind λr=>(r.2[n]?).bind λws=>if ws.length<=10000 then some (.nx ⟨s.G,r.2.set n (ws++[r.1])⟩) else none
 | _=>none
theorem zPA (V:GM X b t)(h:GM X e f)
  (D:starEach [e] X.env=[(false,eval e X.env)]) (g:attributeBase b "append" X.env (eval b X.env)=eval b X.env) (d:(apos.endLine==cpos.line)=true) :
  GSM X (.Expr (.Call (.Attribute b "append" apos) [e] [] cpos) pos) (appM t f):=λH0 u=>(zDB (zGd PySem.F.plainAttrs_list PySem.F.slot_list_append PySem.F.type_list_append zFu V (zAR h zAs D) g (by rw[D];rfl) d D rfl) rfl).imp λE σ H c=>by
 obtain⟨T,s,o,E,k,e,p⟩:=c;obtain⟨x,Q,e⟩:=bind_some e;split at e
 .rename_i n U;obtain⟨r,R,e⟩:=bind_some e;obtain⟨O,M,e⟩:=bind_some e;by_cases hl:O.length<=10000
  .rw [if_pos hl] at e;cases e;refine⟨u++T,s.G,s.M,x,E,Q,λv H1 q F I J=>?_⟩;rw[U,DenW] at J;obtain⟨a,L,rfl⟩:=J;have i:=E.next F I;obtain⟨_,Y,_,W,_⟩:=I.loc L;refine⟨.inl ⟨rfl,_,SqL.of W⟩,u++T++q,s.G,x.2,r,i,R,λy z j P v Z=>?_⟩;have C:=i.next P v;have l:=zA3 (T:=j) L;obtain⟨A,G,K⟩:=v.loc' l M;refine⟨a,A,y,rfl,rfl,G,by rw[<- K.length];exact Nat.lt_of_le_of_lt hl (by decide),?_⟩;have w:n < r.2.length:=(zzg M).1;have N:Kp z (upd z a (.lst (A++[y]))):=by show Same _ _;rw[zNV G];exact Same.refl _
   have S:=v.change w l (K.append (.cons Z .nil));have B:MS X.K (upd z a (.lst (A++[y]))) (u++(T++q++j)) (r.2.set n (O++[r.1])) σ s.G:=by
    have m:=C.next (T:=[]) N (by rw[append_nil];exact S);rw[append_nil] at m;rw[show u++(T++q++j)=u++T++q++j by simp];exact m
   exact p (T++q++j) σ _ B (k.trans (F.trans (P.trans N)))
  .rw [if_neg hl] at e;cases e
 .cases e
end
section
variable {X:Cx}{K:W.Frag}{H:Hp}{O:List CA}{M:Mem}{σ:St}{G:List (Option W)}
theorem MS.chg (b:MS K H O M σ G){n:Nat}{a:Addr}{us vs:List V}{ws:List W}(c:O[n]?=some (a,.lst))(d:H a=some (.lst us))(t:DenWL K H O ws vs):MS K (upd H a (.lst vs)) O (M.set n ws) σ G/\Kp H (upd H a (.lst vs)):=by
 have e:Kp H (upd H a (.lst vs)):=by show Same _ _;rw[zNV d];exact Same.refl _
 have m:=b.next e (by rw[append_nil];exact b.cells.change (by rw[<- b.cells.len];exact(zzg c).1) c t)
 simp_all
noncomputable def putM (t k f:Mst->Option MR):Mst->Option OutM:=λs=>(f s).bind λr=>(t ⟨s.G,r.2⟩).bind λx=>(k ⟨s.G,x.2⟩).bind λj=>match x.1,j.1 with
 | .loc n,.dat (.int i)=>(j.2[n]?).bind λws=>(ixN ws.length i).bind λm=>some (.nx ⟨s.G,j.2.set n (ws.set m r.1)⟩)
 | _,_=>none
theorem zO7 {b d e:Expr}{t k f:Mst->Option MR}{pos c:Pos}(V:GM X b t)(Z:GM X d k)(h:GM X e f)
  (ha:∀ v,assign (.Subscript b d c) X.env v=(do
   let ov<-holding [v] (eval b X.env)
   let iv<-holding [v,ov] (eval d X.env)
   standAt c
   holding [v,ov,iv] (setItem ov iv v)
   release [v,ov,iv] [])) (W:swapsWithSole [.Subscript b d c] e pos.line X.env=pure false) (hw:swappedStores [.Subscript b d c] e X.env=pure none)
  (h1:(assignEach [.Subscript b d c] X.env).map (·.2)=[assign (.Subscript b d c) X.env]):GSM X (.Assign [.Subscript b d c] e pos) (putM t k f):=λH0 α0 =>
 (zQX h (zQZ V Z zLK ha) W hw h1).imp λE σ H g=>by
 obtain⟨T,s,o,A,R,e,p⟩:=g;obtain⟨r,N,e⟩:=bind_some e;obtain⟨x,S,e⟩:=bind_some e;obtain⟨j,U,e⟩:=bind_some e;split at e
 .rename_i n i en P;obtain⟨ws,Q,e⟩:=bind_some e;obtain⟨m,em,e⟩:=bind_some e;cases e;refine⟨α0++T,s.G,s.M,r,A,N,λy H1 q z C d1=>?_⟩;refine⟨α0++T++q,s.G,r.2,x,A.next z C,S,λv H2 y B I M=>?_⟩;refine⟨α0++T++q++y,s.G,x.2,j,(A.next z C).next B I,U,λw H3 l F K G=>?_⟩;rw[en,DenW] at M;obtain⟨a,O,rfl⟩:=M;rw[P,DenW,Den] at G;have D:=((A.next z C).next B I).next F K;have u:=zA3 (T:=l) O;obtain⟨Y,L,J⟩:=K.loc' u Q;refine⟨a,Y,i,m,rfl,G,L,by rw[<- J.length];exact em,?_⟩;have dy:=(d1.mono B y).mono F l;obtain⟨m4,E⟩:=D.chg u L (J.set dy m);rw[show α0++T++q++y++l=α0++(T++q++y++l) by simp] at m4;exact p (T++q++y++l) σ _ m4 (R.trans (z.trans (B.trans (F.trans E))))
 .cases e
theorem DenWL.dropLast:∀ {ws:List W} {vs:List V},DenWL K H O ws vs->DenWL K H O ws.dropLast vs.dropLast
 | [],_,h=>by rw[DenWL] at h;subst h;exact .nil
 | [w],_,h=>by
  rw[DenWL] at h;obtain⟨v,us,rfl,h2,h3⟩:=h;rw[DenWL] at h3;subst h3;exact .nil
 | w::w2::ws,_,h=>by
  rw[DenWL] at h;obtain⟨v,us,rfl,h2,h3⟩:=h;have a:=h3;rw[DenWL] at h3;obtain⟨c,b,rfl,_,_⟩:=h3;exact .cons h2 (DenWL.dropLast a)
inductive Src where
 | items (ws:List W) | live (n:Nat)
noncomputable def itm (M:Mem):Src->Option (List W)
 | .items ws=>some ws
 | .live n=>M[n]?
def JOk (K:W.Frag)(J:It)(src:Src)(H1:Hp)(Z1:List CA):Prop :=
 ∀ (i:Nat) (H2:Hp) (U:List CA) (M2:Mem) (ws:List W),Kp H1 H2->zAD K H2 (Z1++U) M2->itm M2 src=some ws->(ws[i]?=none->J.stop i H2)/\∀ w,ws[i]?=some w->J.go i H2/\∀ v H3,J.yld i H2 v H3->H3=H2/\DenW K H2 (Z1++U) w v
def GIM (X:Cx)(tg iter:Expr)(g:Mst->Option (Src×Mem)):Prop:=∃ wi,PI X tg iter wi/\∀ (σ:St) (H:Hp) (O:List CA) (G:List (Option W)) (M:Mem) (r:Src×Mem) (Rr:It->Hp->Prop),MS X.K H O M σ G->g ⟨G,M⟩=some r ->
 (∀ J H1 T,Kp H H1->zAD X.K H1 (O++T) r.2->JOk X.K J r.1 H1 (O++T)->Rr J H1)->wi σ H Rr
def GGM (X:Cx)(tg:Expr)(t:W->Mst->Option Mst):Prop:=∃ g,PG X tg g/\∀ (w:W) (v:V) (σ:St) (H:Hp) (O:List CA) (s s':Mst) (Q:St->Hp->Prop),MS X.K H O s.M σ s.G->DenW X.K H O w v->t w s=some s'->(∀ O1,MS X.K H O s'.M O1 s'.G->Q O1 H)->g v σ H Q
noncomputable def tgM (i:Nat):W->Mst->Option Mst:=λw s=>some ⟨s.G.set i (some w),s.M⟩
theorem zFM (c:X.N.Nodup)(d:X.N[i]?=some x)(g:Loc X.env.scope x)(b:X.fn x=true\/X.env.scope.names.lookup x=some .local):GGM X (.Name x pos) (tgM i) :=
 ⟨_,zE4 c d g b,λw v σ H O s h Q a f e q=>by
  cases e;exact q _ (a.set f)⟩
noncomputable def forN (t:W->Mst->Option Mst)(b:Mst->Option OutM)(src:Src):Nat->Nat->Mst->Option OutM
 | 0,_,_=>none
 | f+1,i,s=>(itm s.M src).bind λws=>match ws[i]? with
  | none=>some (.nx s)
  | some w=>(t w s).bind λs1=>(b s1).bind λo=>match o with
   | .nx s'=>forN t b src f (i+1) s'
   | .ct s'=>forN t b src f (i+1) s'
   | .bk s'=>some (.nx s')
   | .rt r=>some (.rt r)
noncomputable def zIP (t:W->Mst->Option Mst)(b:Mst->Option OutM)(src:Src)(i:Nat)(s:Mst):Option OutM:=forN t b src 1000 i s
theorem zKI (h:zIP t b src i s=some o):∃ n,forN t b src n i s=some o:=⟨_,h⟩
theorem zO9 (hp:PassesOwn (model X.prog X.w) X.A X.env X.xe)(hc:X.calm=true)(hi:GIM X tg iter f)(V:GGM X tg t)(hb:GSsM X body b)
  (hs:∀ x,foldedSetIterable iter X.env x=pure x):GSM X (.For tg iter body [] pos) (λs=>(f s).bind λr=>zIP t b r.1 0 ⟨s.G,r.2⟩):=by
 intro H0 u;obtain⟨wi,P,hI⟩:=hi;obtain⟨g,V,hG⟩:=V;intro d s σ H E I ⟨T,S,o,ms,Q,e,p⟩;obtain⟨r,er,e⟩:=bind_some e;obtain⟨N,eN⟩:=zKI e;refine(zM7 (tb:=λE σ k=>∃ l O,gSM X.K l O b E σ k) hp hc P V ?_ hs) d s σ H E I ?_
 .intro d s σ H E I ⟨l,O,q⟩;exact hb l O d s σ H E I q
 refine hI σ H (u++T) S.G S.M r _ ms er λJ l D J c1 hJ=>?_
 refine⟨λi m F k=>∃ U h,MS X.K k (u++T++D++U) h.M F h.G/\Kp l k/\forN t b r.1 m i h=some o,⟨N,[],⟨S.G,r.2⟩,by rw[append_nil];exact ms.next J c1,Kp.refl _,eN⟩,?_⟩;rintro i m F k ⟨U,h,j,K,a⟩;cases m with
 | zero=>cases a
 | succ m =>
  rw[forN] at a;obtain⟨Z,ew,a⟩:=bind_some a;obtain⟨j1,j2⟩:=hJ i k U h.M Z K j.cells ew;have c:∀ U:List CA,u++T++D++U=u++(T++D++U):=λU=>by simp
  cases q:Z[i]? with
  | none =>
   rw[q] at a;cases a;rw[c] at j;exact .inl ⟨j1 q,p _ F k j (Q.trans (J.trans K))⟩
  | some w =>
   rw[q] at a;dsimp only at a;obtain⟨W,e1,a⟩:=bind_some a;obtain⟨o1,e2,a⟩:=bind_some a;obtain⟨go,yl⟩:=j2 w q;refine .inr ⟨go,λO9 A=>∃ U h,MS X.K A (u++T++D++U) h.M O9 h.G/\Kp l A/\forN t b r.1 m (i+1) h=some o,λO9 A z=>⟨m,Nat.lt_succ_self m,z⟩,λv A y=>?_⟩;obtain⟨rfl,hv⟩:=yl v A y;refine hG w v F A _ h W _ j hv e1 λU3 M=>⟨l,u++T++D,U,W,o1,M,K,e2,?_⟩
   cases o1 with
   | nx G=>exact λU2 R C B n=>⟨U2,G,B,n,a⟩
   | ct G=>exact λU2 R C B n=>⟨U2,G,B,n,a⟩
   | bk G =>
    cases a;intro U2 R C B n;rw[c] at B;exact p _ R C B (Q.trans (J.trans n))
   | rt z =>
    cases a;intro U2 v2 C Y d2 n;rw[c] at Y d2;exact p _ v2 C Y d2 (Q.trans (J.trans n))
end
section
variable {X:Cx}
noncomputable def srcM (f:Mst->Option MR):Mst->Option (Src×Mem):=λs=>(f s).bind λr=>match r.1 with
 | .loc n=>some (.live n,r.2)
 | .tup ws=>some (.items ws,r.2)
 | .dat (.tup ds)=>some (.items (ds.map .dat),r.2)
 | .dat (.lst ds)=>some (.items (ds.map .dat),r.2)
 | _=>none
theorem zPK (h:GM X iter f):GIM X tg iter (srcM f):=by
 refine⟨_,zM9 h,fun σ H O G M z Rr ms e q=>?_⟩;obtain⟨r,er,e⟩:=bind_some e;refine⟨O,G,M,r,ms,er,λv d T D p j=>?_⟩;have l:∀ {a:Addr} {g:List W} {b:List V},SqT X.K (fzH d) a b->DenWL X.K d (O++T) g b->JOk X.K (Itt X.K a) (.items g) d (O++T):=λ{a g b} F B i A U Q E o J C=>by
  cases C;have c:SqT X.K A a b:=Same.tupS zBc (Same.tupS o F);refine⟨λn=>⟨b,c,?_⟩,λw x=>?_⟩
  .rw [<- B.length];exact List.getElem?_eq_none_iff.mp n
  .obtain ⟨u,t,v⟩:=B.get x;refine⟨⟨b,u,c,t⟩,λv N y=>⟨y.1,?_⟩⟩;have:=y.2 b c;rw[t] at this;cases this;exact v.mono o U
 have s:∀ {a:Addr} {g:List W} {b:List V},SqL X.K (fzH d) a b->DenWL X.K d (O++T) g b->JOk X.K (Itl X.K a) (.items g) d (O++T):=λ{a g b} F B i A U Q E o J C=>by
  cases C;have c:SqL X.K A a b:=zBc.seq (o.seq F);refine⟨λn=>⟨b,c,?_⟩,λw x=>?_⟩
  .rw [<- B.length];exact List.getElem?_eq_none_iff.mp n
  .obtain ⟨u,t,v⟩:=B.get x;refine⟨⟨b,u,c,t⟩,λv N y=>⟨y.1,?_⟩⟩;have:=y.2 b c;rw[t] at this;cases this;exact v.mono o U
 split at e
 .rename_i n m;cases e;rw[m,DenW] at j;obtain⟨a,P,rfl⟩:=j;obtain⟨S,I,_,R,_⟩:=p.loc P;refine⟨a,rfl,.inl ⟨⟨I,SqL.of R⟩,q _ d T D p λi A U Q g o J C=>?_⟩⟩;obtain⟨b,v,L⟩:=J.loc' (zA3 (T:=U) P) C;have c:SqL X.K A a b:=SqL.of v;refine⟨λn=>⟨b,c,?_⟩,λw x=>?_⟩
  .rw [<- L.length];exact List.getElem?_eq_none_iff.mp n
  .obtain ⟨u,K,Z⟩:=L.get x;refine⟨⟨b,u,c,K⟩,λv N y=>⟨y.1,?_⟩⟩;have:=y.2 b c;rw[K] at this;cases this;exact Z
 .rename_i g m;cases e;rw[m,DenW] at j;obtain⟨a,b,rfl,k,w⟩:=j;exact⟨a,rfl,.inr ⟨⟨b,SqT.of (zBc _ _ k)⟩,q _ d T D p (l (SqT.of k) w)⟩⟩
 .rename_i Y m;cases e;rw[m,DenW,Den] at j;obtain⟨a,b,rfl,k,w⟩:=j;exact⟨a,rfl,.inr ⟨⟨b,Same.tupS zBc k⟩,q _ d T D p (l k (DenWL.dats w))⟩⟩
 .rename_i Y m;cases e;rw[m,DenW,Den] at j;obtain⟨a,b,rfl,k,w⟩:=j;exact⟨a,rfl,.inl ⟨⟨b,zBc.seq k⟩,q _ d T D p (s k (DenWL.dats w))⟩⟩
 .cases e
noncomputable def zLM (f:Mst->Option MR):Mst->Option (Src×Mem):=λs=>(f s).bind λr=>match r.1 with
 | .dat (.int j)=>if -(2^62)<=j/\j < 2^62 then some (.items ((rngL 0 j.toNat).map .dat),r.2) else none
 | _=>none
theorem rngJ {K:W.Frag}(a:Int)(n:Nat):JOk K (Itr a n) (.items ((rngL a n).map .dat)) H1 Z1:=λi h U f j k g e=>by
 cases e;have c:((rngL a n).map W.dat).length=n:=by unfold rngL;simp
 refine⟨λz=>?_,λw b=>?_⟩
 .have:=List.getElem?_eq_none_iff.mp z;rw[c] at this;exact this
 .have d:i < n:=by rw[<- c];exact(zzg b).1
  refine⟨d,λv l y=>⟨y.1,?_⟩⟩;have:((rngL a n).map W.dat)[i]?=some (.dat (.int (a+i))):=by unfold rngL;simp[d]
  rw[this] at b;cases b;exact y.2
theorem zIL (i:Gl X "range")(k:X.mg "range"=none)(h:GM X a f)(b:starEach [a] X.env=[(false,eval a X.env)]):GIM X tg (.Call (.Name "range" p) [a] [] pos) (zLM f):=by
 refine⟨_,zFk i k (zAR h zAs b) b,fun σ H O G M z Rr ms e q=>?_⟩;obtain⟨r,d,e⟩:=bind_some e;split at e
 .rename_i j n;by_cases hj:-(2^62)<=j/\j < 2^62
  .rw [if_pos hj] at e;cases e;refine⟨O,G,M,r,ms,d,λv m T l g c=>⟨j,?_,hj.1,hj.2,q _ m T l g (rngJ 0 _)⟩⟩
   simp_all
   rw[c]
  .simp_all
 .cases e
noncomputable def zSh (f g:Dst->Option R):Mst->Option (Src×Mem):=λs=>(zLN f g (drS s.M s.G)).map λds=>(.items (ds.map .dat),s.M)
end
noncomputable def zAv (np nN:Nat)(g:Mst->Option OutM):MF:=λws M =>
 if ws.length=np/\np<=nN then (g ⟨ws.map some++List.replicate (nN - np) none,M⟩).bind λo=>match o with
  | .rt r=>some r
  | .nx s=>some (.dat .non,s.M)
  | _=>none
 else none
theorem zDi {K:W.Frag}(c:zAD K H O M)(h:DenWL K H O ws vs)(g:ws.length<=N.length):MS K H O M (zB8 N vs) (ws.map some++List.replicate (N.length - ws.length) none):=by
 have f:=h.length;refine⟨c,?_,λi w q=>?_⟩
 .unfold L2.zB8;grind
 .have b:i < ws.length:=by
   by_cases z:i < ws.length
   .exact z
   .rw [getElem?_append_right (by simpa using z),getElem?_replicate] at q;split at q<;>cases q
  rw[getElem?_append_left (by simpa using b),getElem?_map] at q;cases e:ws[i]? with
  | none=>rw[e] at q;cases q
  | some j =>
   rw[e] at q;cases q;obtain⟨v,a,d⟩:=h.get e;refine⟨v,?_,d⟩;unfold L2.zB8;rw[getElem?_append_left (by grind),getElem?_map,a]
   rfl
theorem zKG {K:W.Frag}{st:Stmt}(F:Fun K x qual st f fd)(S:zAV N ps (zAA st))
  (b:∀ (cdv:Value) (A:Around) (outer:List Env) (s:Shared) (H:Hp) (E:XK),Room k (A.deeper (envOfC qual (zAA st) s.heap.objs.size f cdv))->GSsM (cxOf CX0 P w K mg base N qual (zAA st) f cdv A outer s H E).nox (zAF st) g) :
  FnOk P w K mg base CX0 (k+1) f fd ps (spM K (zAv ps.length N.length g)):=by
 refine F.ok S (λvs H Q E h=>?_) λcdv A outer s H B Q E p h=>?_
 .obtain ⟨O,M,i,r,c,d,a,n⟩:=h;unfold zAv at a;by_cases q:i.length=ps.length/\ps.length<=N.length
  .rw [<- d.length];exact q.1
  .simp_all
 obtain⟨O,M,i,r,c,d,a,n⟩:=h;refine⟨_,b cdv A outer s H E p H O,?_⟩;unfold zAv at a;by_cases q:i.length=ps.length/\ps.length<=N.length
 .rw [if_pos q] at a;obtain⟨o,j,a⟩:=bind_some a;rw[<- q.1] at j;refine⟨[],_,o,by rw[append_nil];exact zDi c d (by rw[q.1];exact q.2),Kp.refl H,j,?_⟩;cases o with
  | nx y =>
   cases a;exact λT z e m k=>n _ e T k m.cells (by rw[DenW,Den])
  | rt u =>
   cases a;exact λT v e t l k=>n v e T k t l
  | bk _=>cases a
  | ct _=>cases a
 .simp_all
theorem walkM {l:W.OpenLaw}{K:Params->W.Frag}(I:l.most=some 63)(i:d.params.defaults=[])(A:importsNone q=true)(C:∀ w,(model l.prog w).prog.given.tree=none)(E:Room k callerA)(tl:List (Str×Addr×Addr))(b:∀ (w:World) (h:Heap),YP w h->∀ t∈tl,W.CodeHd h t.2.1 t.2.2/\h.get? t.2.2=some (W.tabObj #[]))(e:∀ w:World,∀ x∈zBe,tabQ (K w.params) x=tl.lookup x)(g:∀ t∈tl,t.1∈zBe/\tl.lookup t.1=some t.2)(hnd:(tl.map λt=>t.2.2).Nodup)(j:∀ w:World,W.noTabs (K w.params)=true)
  (m:∀ (w:World) (h:Heap),YP w h->(K w.params).In h)
  (y:∀ (w:World) (mg:Str->Option Value) (fa:Addr) (h:Heap),(K w.params).In h->h.Ns mainGlobals mg->mg d.name=some (.ref fa) ->
   ∃ fd:FuncData,(∀ (s:Shared) (u:Value),BindsTo s fd ⟨[u],[]⟩ [("_law_script",u)])/\∀ base:Heap,(K w.params).In base->base.Ns mainGlobals mg->FnOk l.prog w (K w.params) mg base CX0 k fa fd ["_law_script"] (spM (K w.params) F))
  (G:∀ ns:List Int,ns.length<=63->∃ M,F [.dat (.lst (ns.map D.int))] []=some (.dat (.bl true),M)) :
  W.WalkO q loose XP YP l.row.toRowW d [] (λf vs=>PySem.call f vs) :=
 L2.zNp (n:=63) (k:=k) (CX:=λ_=>CX0) I (by decide) i A C E tl b e g hnd j m y (λw H a ns B p r=>by
   obtain⟨M,J⟩:=G ns B.1;have v:SqL (K w.params) (fzH H) a (ns.map V.int):=by
    rcases r with (h | ⟨o,h⟩) | h
    .exact (p _ h).elim
    .exact .inl (.inr ⟨o,zD7 h⟩)
    .exact .inr h
   refine⟨[],[],[.dat (.lst (ns.map D.int))],_,⟨rfl,by simp,λn N z=>by simp at z⟩,.cons ?_ .nil,J,λv L T k c d=>?_⟩
   .rw [DenW,Den];exact⟨a,_,rfl,v,DenL.ints ns⟩
   .rw [DenW,Den] at d;exact d) λ_ _ _ _ _ z=>z
noncomputable def zDc (t:W->Mst->Option Mst)(e:Mst->Option MR)(src:Src):Nat->Nat->Mst->List W->Option MA
 | 0,_,_,_=>none
 | f+1,i,s,done=>(itm s.M src).bind λws=>match ws[i]? with
  | none=>some (done,s.M)
  | some w=>(t w s).bind λs1=>(e s1).bind λr=>if done.length<=10000 then zDc t e src f (i+1) ⟨s1.G,r.2⟩ (done++[r.1]) else none
noncomputable def zHi (t:W->Mst->Option Mst)(e:Mst->Option MR)(src:Src)(s:Mst):Option MA:=zDc t e src 1000 0 s []
theorem zIS (h:zHi t e src s=some o):∃ n,zDc t e src n 0 s []=some o:=⟨_,h⟩
noncomputable def zG2 (ms:List Nat)(k:Nat)(f:Mst->Option (Src×Mem))(t:W->Mst->Option Mst)(e:Mst->Option MR):Mst->Option MR:=λs =>
 (f s).bind λz=>(zHi t e z.1 ⟨mask none ms s.G++List.replicate k none,z.2⟩).bind λy=>if y.1.length<=10000 then some (.loc y.2.length,y.2++[y.1]) else none
theorem zGG (h:zG2 ms k f t e s=some r):∃ z y N,f s=some z/\zDc t e z.1 N 0 ⟨mask none ms s.G++List.replicate k none,z.2⟩ []=some y/\y.1.length<=10000/\r=(.loc y.2.length,y.2++[y.1]):=by
 obtain⟨z,b,h⟩:=bind_some h;obtain⟨y,c,h⟩:=bind_some h;obtain⟨N,a⟩:=zIS c;by_cases l:y.1.length<=10000
 .rw [if_pos l] at h;cases h;exact⟨z,y,N,b,a,l,rfl⟩
 .simp_all
theorem MS.ext {K:W.Frag}{σ:St}(h:MS K H O M σ G)(b:List Nat)(k:Nat):MS K H O M (mask none b σ++List.replicate k none) (mask none b G++List.replicate k none):=by
 refine⟨h.cells,by rw[qj,qj,zBF,zBF,h.len,length_replicate,length_replicate],λi w q=>?_⟩;obtain⟨q,a⟩:=zCS q;rcases zBl q with ⟨z,_⟩ | ⟨q,ni⟩
 .cases z
 .obtain ⟨v,c,d⟩:=h.get i w q;exact⟨v,by rw[getElem?_append_left (by rw[zBF] at a ⊢;rw[h.len];exact a),zE8 ni];exact c,d⟩
theorem zMl :∀ {n i:Nat} {s:Mst} {d:List W} {y:MA},zDc t e src n i s d=some y->y.1.length<=10000->d.length<=10000
 | 0,_,_,_,_,h,_=>by cases h
 | n+1,i,s,d,y,h,l=>by
  rw[zDc] at h;obtain⟨ws,_,h⟩:=bind_some h;split at h
  .cases h;exact l
  .obtain ⟨_,_,h⟩:=bind_some h;obtain⟨_,_,h⟩:=bind_some h;split at h
   .assumption
   .cases h
section
variable {X:Cx}
theorem zEh (w:X.calm=true)(hi:GIM X tg iter f)(cs:zCW X.env.scope scope)
  (hm:∀ (i:Nat) x,X.N[i]?=some x->ownB scope x=true->i∈ms)
  (hg:∀ s H fp,GGM (zAb X (mask (noN X.N) ms X.N++xs) scope s H fp) tg t)
  (he:∀ s H fp,GM (zAb X (mask (noN X.N) ms X.N++xs) scope s H fp) elt e)
    {σ:St}        (I:Inv X pins σ H s) (a1:MS X.K H O M σ G) (ez:f ⟨G,M⟩=some z) (b0:y.1.length<=10000) (ey:zDc t e z.1 NN 0 ⟨mask none ms G++List.replicate xs.length none,z.2⟩ []=some y)
  {RR:Value->Addr->Result->Shared->Prop}
  (b1:∀ (D C:Addr) (s1:Shared) (H'':Hp) (m:Str->Option Value),s1.heap.Ns C m->(∀ h',Heap.SameBut C s1.heap h'->Inv X pins σ H'' { s1 with heap:=h' })->H'' C=none->C≠X.env.locals->C∉X.fs->X.s0.heap.objs.size<=C ->
   (∀ x c,X.env.cells.lookup x=some c->c≠C)->(∀ p∈X.pn++pins,p.1≠C)->(∃ T,Kp H H''/\zAD X.K H'' (O++T) (y.2++[y.1])/\DenW X.K H'' (O++T) (.loc y.2.length) (.ref D))->RR (.ref D) C (.ok .next) s1) :
  wpAny (model X.prog X.w) X.A (eval iter X.env) (λx O4=>wpAny (model X.prog X.w) X.A (pyIter x) (λit O8=>wpAny (model X.prog X.w) X.A (newList []) (λacc Y2 =>
   wpAny (model X.prog X.w) X.A (newFunctionEnv scope X.env.globals (zB9 X.env scope.names []) [] X.env.qual none .none (some X.env)) (λcenv Y8 =>
    codeAny (model X.prog X.w) X.A (.compStart (.ListComp elt [⟨tg,iter,[],0⟩] scope pos) 0 it acc { cenv with scope:=relabel scope X.env }) (RR acc cenv.locals) Y8) X.xe Y2) X.xe O8) X.xe O4) X.xe s:=by
 obtain⟨wi,a6,hI⟩:=hi;refine zHh w a6 cs hm I (L:=λJ H2 n i P h A=>∃ (b U:List CA) (st':Mst) (a:List W),(Kp H H2/\JOk X.K J z.1 H2 (O++b))/\MS X.K h (O++b++U) st'.M P st'.G/\Kp H2 h/\DenWL X.K h (O++b++U) a A/\a.length<=10000/\zDc t e z.1 n i st' a=some y)
  (Z:=λH2 h A=>∃ (b U:List CA),Kp H H2/\Kp H2 h/\zAD X.K h (O++b++U) y.2/\DenWL X.K h (O++b++U) y.1 A)
  (hI σ H O G M z _ a1 ez λJ H1 T k1 c1 hJ=>⟨NN,T,[],⟨mask none ms G++List.replicate xs.length none,z.2⟩,[],⟨k1,hJ⟩,by rw[append_nil];exact(a1.next k1 c1).ext ms xs.length,Kp.refl _,.nil,zero_le _,ey⟩) (λ{J H2 n i P h A} ll=>?_) (λ{J H2 n i P h A} s3 fp ll=>?_) λD C s1 H'' m h1 h2 h3 h4 h5 h6 h7 h8 ll=>?_
 .obtain ⟨_,_,_,_,_,_,_,F,hl,_⟩:=ll;rw[<- F.length];exact hl
 .obtain ⟨b,U,a0,a,⟨k12,hJ⟩,ds',N,F,hl,d⟩:=ll;cases n with
  | zero=>cases d
  | succ n =>
  rw[zDc] at d;obtain⟨ws,ew,d⟩:=bind_some d;obtain⟨j1,j2⟩:=hJ i h U a0.M ws N ds'.cells ew;cases hq:ws[i]? with
  | none =>
   rw[hq] at d;cases d;exact .inl ⟨j1 hq,b,U,k12,N,ds'.cells,F⟩
  | some w0 =>
   rw[hq] at d;dsimp only at d;obtain⟨go,yl⟩:=j2 w0 hq;refine .inr ⟨n,Nat.lt_succ_self n,go,λx S y5=>?_⟩;obtain⟨rfl,hv⟩:=yl x S y5;refine⟨rfl,λY eY pn s5 u E I5 r5=>?_⟩;subst eY;obtain⟨j,e1,d⟩:=bind_some d;obtain⟨r,er,d⟩:=bind_some d;by_cases hdl:a.length<=10000
   case neg=>rw[if_neg hdl] at d;cases d
   rw[if_pos hdl] at d;have b3:(a++[r.1]).length<=10000:=zMl d b0;obtain⟨g,a8,a7⟩:=hg s3 H2 fp;refine wpAny_mono (a8 pn s5 P S x u _ I5 r5 (a7 w0 x P S (O++b++U) a0 j (λO5 H6=>H6=S/\MS X.K S (O++b++U) j.M O5 j.G) ds' hv e1 λO5 d6=>⟨rfl,d6⟩)) (λ_ s6 B=>?_) λ_ _ z=>z.elim
   obtain⟨O5,H6,I6,q6,R⟩:=B;subst q6;refine wpAny_tests_nil ?_;rw[if_pos rfl];refine wpAny_mono (he s3 H2 fp pn s6 O5 H6 (λv K=>∃ l,Kp H6 K/\zAD X.K K (O++b++U++l) r.2/\DenW X.K K (O++b++U++l) r.1 v) I6 ⟨O++b++U,j.G,j.M,r,R,er,λv K l V c8 d8=>⟨l,V,c8,d8⟩⟩) (λuv s8 q=>?_) λ_ _ z=>z.elim
   obtain⟨v,K,I8,a9,l,V,c8,d8⟩:=q;have o:O++b++U++l=O++b++(U++l):=by simp
   have Y:=R.next V c8;have Q:=F.mono V l;rw[o] at Y d8 Q;exact⟨v,O5,K,I8,a9,b,U++l,⟨j.G,r.2⟩,a++[r.1],⟨k12,hJ⟩,Y,N.trans V,DenWL.append Q (.cons d8 .nil),b3,d⟩
 .obtain ⟨H2,h,A,⟨b,U,k12,N,dc,F⟩,H2D,HD,rfl⟩:=ll;have s9:Same h (upd h D (.lst A)):=zAU HD _;refine b1 D C s1 _ m h1 h2 h3 h4 h5 h6 h7 h8 ⟨b++U++[(D,CK.lst)],k12.trans (N.trans (zAq s9)),?_⟩;rw[show O++(b++U++[(D,CK.lst)])=O++b++U++[(D,CK.lst)] by simp];exact⟨dc.new s9 HD zAJ (F.mono (zAq s9) [(D,CK.lst)]),zFA dc⟩
theorem zJ3 (a:X.calm=true)(B:GIM X tg iter f)(q:∀ x,foldedSetIterable iter X.env x=pure x)(cs:zCW X.env.scope scope)
  (v:∀ (i:Nat) x,X.N[i]?=some x->ownB scope x=true->i∈ms)
  (A:∀ s H fp,GGM (zAb X (mask (noN X.N) ms X.N++xs) scope s H fp) tg t)
  (J:∀ s H fp,GM (zAb X (mask (noN X.N) ms X.N++xs) scope s H fp) elt e) :
  GM X (.ListComp elt [⟨tg,iter,[],0⟩] scope pos) (zG2 ms xs.length f t e):=by
 intro h s σ H Q I ⟨O,G,M,r,g,j,o⟩;obtain⟨z,y,L,n,u,d,rfl⟩:=zGG j;refine wpAny_comprehension_free rfl q (zBn (zEH I cs)) cs.kind (zCn cs) ?_;refine zEh a B cs v A J I g n d u λD C K b m w p _ _ _ _ _ _ c=>?_
 obtain⟨T,k,l,E⟩:=c;exact⟨m,w,λh' F=>⟨.ref D,b,p h' F,rfl,o _ b T k l E⟩⟩
end
section
variable {X:Cx}
theorem zL3 (c:X.calm=true)(P:GIM X tg iter f)(hs:∀ x,foldedSetIterable iter X.env x=pure x)(cs:zCW X.env.scope scope)
  (hm:∀ (i:Nat) x,X.N[i]?=some x->ownB scope x=true->i∈ms)
  (Z:∀ s H fp,GGM (zAb X (mask (noN X.N) ms X.N++xs) scope s H fp) tg t)
  (U:∀ s H fp,GM (zAb X (mask (noN X.N) ms X.N++xs) scope s H fp) elt e)
  (S:X.N.Nodup) (hy:X.N[i]?=some y) (hl:Loc X.env.scope y) (V:X.fn y=true\/X.env.scope.names.lookup y=some .local) :
  GSM X (.Assign [.Name y py] (.ListComp elt [⟨tg,iter,[],0⟩] scope pos) spos) (setM i (zG2 ms xs.length f t e)):=by
 have G:GM X (.ListComp elt [⟨tg,iter,[],0⟩] scope pos) (zG2 ms xs.length f t e):=zJ3 c P hs cs hm Z U;have h:∃ b,swapsWith (.ListComp elt [⟨tg,iter,[],0⟩] scope pos) (some (.Name y py)) spos.line X.env=pure b:=⟨_,rfl⟩;obtain⟨b,h⟩:=h;cases b with
 | false=>exact zFJ S hy hl G h V
 | true =>
  intro H0 α0 a s σ H E I ⟨T,st,o,n,kp,M,p⟩;obtain⟨r,er,M⟩:=bind_some M;cases M;obtain⟨z,yy,NN,ez,ey,w,rfl⟩:=zGG er;rw[exec_Assign_Name_used _ _ _ _ h];refine qQ (wpAny_standAt (qQ ?_));show wpAny _ X.A (do let _<-comprehension (.ListComp elt [⟨tg,iter,[],0⟩] scope pos) scope X.env _ (newList []) false (eval iter X.env) (some (assign (.Name y py) X.env))) _ _ s;refine qQ (wpAny_mono (wpAny_comprehension_free (use:=some (assign (.Name y py) X.env)) (Q:=λ_ v=>SP X a E .next v) rfl hs (zBn (zEH I cs)) cs.kind (zCn cs) ?_) (λ_ v B=>xj (xj B)) λ_ _ e=>e);refine zEh (RR:=λacc C=>compPost (model X.prog X.w) X.A X.xe (some (assign (.Name y py) X.env)) (λ_ v=>SP X a E .next v) acc C) c P cs hm Z U I n ez w ey λD C j d m ns hI l k K A F L J=>?_
  have O:Inv X a σ d j:=hI j.heap (Heap.SameBut.refl ..);obtain⟨u,es,ep,ho,hd,w3⟩:=id ns;have I2:Inv X (a++[(C,u)]) σ d j:=O.pins_of λq B=>(mem_append.mp B).elim (λz=>O.pin q (xQ _ z)) λz=>by
   have e:q=(C,u):=by simpa using z
   subst e;exact⟨ho,l,k,K,λv z=>by rw[hd] at z;cases z⟩
  show wpAny (model X.prog X.w) X.A (assign (.Name y py) X.env (.ref D)) _ X.xe j;refine thn (zE4 S hy hl V _ j σ d (.ref D) (.ref D) (λO5 N=>N=d/\O5=σ.set i (some (.ref D))) I2 rfl ⟨rfl,rfl⟩) λ_ s6 g=>?_
  obtain⟨O5,N,Y,q1,q2⟩:=g;subst q1 q2;have pc:=Y.pin (C,u) (xQ _ (xQ _ (by simp)));refine⟨m,⟨u,es,ep,pc.1,hd,w3⟩,λh' sb=>?_⟩;refine⟨_,N,Y.unpinned.turned (it:=C) (t':=s6.toks) (λb o h q=>sb.extBut b o h q) l (Ne.symm (Ne.symm k)) (.inr A) F L,?_⟩;obtain⟨O3,R,c2,d2⟩:=J;have W:=(n.next R c2).set (i:=i) d2;rw[qJ] at W;exact p (T++O3) _ _ W (kp.trans R)
end
inductive SK where
 | mth (c m:Str) | mk (c kw:Str)
 deriving DecidableEq
noncomputable def spec:List (Str×SK):=[("Fill.films",.mth "Fill" "films"),("Rub.films",.mth "Rub" "films"),("Masked.films",.mth "Masked" "films"),("Join.films",.mth "Join" "films"),("Group.films",.mth "Group" "films"),("Picture.add",.mth "Picture" "add"),("Picture.drop",.mth "Picture" "drop"),("Picture.change",.mth "Picture" "change"),("Picture.lift",.mth "Picture" "lift"),("Picture.numbers",.mth "Picture" "numbers"),("Picture.layer_by",.mth "Picture" "layer_by"),("Picture.renew",.mth "Picture" "renew"),("Picture.cells",.mth "Picture" "cells"),("Picture.check_lies",.mth "Picture" "check_lies"),("Picture.lay",.mth "Picture" "lay"),("Picture.mark",.mth "Picture" "mark"),("Picture.ground_at",.mth "Picture" "ground_at"),("Fill.touched",.mth "Fill" "touched"),("Rub.touched",.mth "Rub" "touched"),("Masked.touched",.mth "Masked" "touched"),("Join.touched",.mth "Join" "touched"),("Group.touched",.mth "Group" "touched"),("Fill()",.mk "Fill" "strength"),("Rub()",.mk "Rub" "strength"),("Masked()",.mk "Masked" ""),("Join()",.mk "Join" "strength"),("Group()",.mk "Group" "strength"),("Picture()",.mk "Picture" "watcher")]
abbrev Dm:=List (Str×MF)
def spI (K:W.Frag)(C:Addr)(F:MF):Sp:=λvs H Q _=>∃ x dx H1 us O M ws r,vs=.ref x::us/\H1 x=none/\H1 dx=none/\dx≠x/\H=upd (upd H1 dx (.own x)) x (.ins C dx [])/\zAD K H1 O M/\DenWL K H1 O ws us/\F ws M=some r /\
 ∀ H' T,Kp H1 H'->zAD K H' (O++T) r.2->DenW K H' (O++T) r.1 (.ref x)->Q .non H'
def KB (K:W.Frag)(fd:FuncData)(ps:List Str)(kw:Str):Prop:=∀ (s:Shared) (us:List Value) (u:Value),K.In s.heap->(us++[u]).length=ps.length->BindsTo s fd ⟨us,[(kw,u)]⟩ (ps.zip (us++[u]))
def zK8 (P:Program)(w:World)(K:W.Frag)(mg:Str->Option Value)(base:Heap)(k:Nat)(x:Str)(F:MF):Option SK->Prop
 | none=>∃ f fd ps,FnOk P w K mg base CX0 k f fd ps (spM K F)/\mg x=some (.ref f)/\W.keepIn K (.ref f)=true/\zBJ K fd ps []
 | some (.mth c m)=>∃ C f fd ps,zAp K c C/\Cls K C/\Meth K C m f/\FnOk P w K mg base CX0 k f fd ps (spM K F)/\zBJ K fd ps []
 | some (.mk c kw)=>∃ j C f fd ps,j < k/\mg c=some (.ref C)/\Mk K C f/\FnOk P w K mg base CX0 j f fd ps (spI K C F)/\zBJ K fd ps []/\(kw ≠ ""->zBJ K fd ps [.none]/\KB K fd ps kw)
theorem zK8.mono {K:W.Frag}(h:zK8 P w K mg base j x F o)(e:j<=k):zK8 P w K mg base k x F o:=by
 rcases o with _|(_|_)
 .obtain ⟨f,g,a,b,d⟩:=h;exact⟨f,g,a,b.mono e,d⟩
 .obtain ⟨C,f,g,a,b,d,l,n,p⟩:=h;exact⟨C,f,g,a,b,d,l,n.mono e,p⟩
 .obtain ⟨i,C,f,g,a,b,d⟩:=h;exact⟨i,C,f,g,a,xJ b e,d⟩
def DmOk (P:Program)(w:World)(K:W.Frag)(mg:Str->Option Value)(base:Heap)(k:Nat)(B:Dm):Prop :=
 ∀ x F,(x,F)∈B->zK8 P w K mg base k x F (spec.lookup x)
theorem zEG {K:W.Frag}(a:zAp K c A)(b:zAp K c B):A=B:=by
 rw[zAp] at a b;grind
theorem zKg (h:zEC gs=true)(n:zE7.contains m=false):gs.lookup m=none:=by
 cases e:gs.lookup m with
 | none=>rfl
 | some v =>
  unfold zEC zKh at h;rw[yx,all_eq_true] at h;have:=h.2 m (mem_map.mpr ⟨_,PySem.mem_of_lookup e,rfl⟩);grind
section
variable {X:Cx}{k:Nat}{B:Dm}
noncomputable def fldM (ob:List (Str×Str×Option Bool))(f:Str)(g:Mst->Option MR):Mst->Option MR:=λs=>(g s).bind λx=>match x.1 with
 | .obj c ns l=>if (c,f,none)∈ob then ((ns.zip l).lookup f).map λw=>(w,x.2) else none
 | .ob c ns n=>if (c,f,none)∈ob then (x.2[n]?).bind λws=>((ns.zip ws).lookup f).map λw=>(w,x.2) else none
 | _=>none
theorem zGh {K:W.Frag}{H:Hp}{O:List CA}{f:Str}{w:W}:∀ {gs:List (Str×V)} {l:List W},DenWL K H O l (gs.map (·.2))->((gs.map (·.1)).zip l).lookup f=some w->∃ v,gs.lookup f=some v/\DenW K H O w v
 | [],_,_,e=>by simp at e
 | (n,u)::gs,[],_,e=>by simp at e
 | (n,u)::gs,x::l,t,e=>by
  rw[map_cons,DenWL] at t;obtain⟨v,us,e1,t1,t2⟩:=t;cases e1;rw[map_cons,List.zip_cons_cons,lookup_cons] at e;rw[lookup_cons];dsimp only at e ⊢;by_cases q:(f==n)=true
  .rw [q] at e ⊢;cases e;exact⟨u,rfl,t1⟩
  .rw [Bool.not_eq_true] at q;rw[q] at e ⊢;exact zGh t2 e
theorem zHb {K:W.Frag}{gs:List (Str×V)}:∀ {ns:List Str} {vs:List V} {l:List W},(ns.map λn=>gs.lookup n)=vs.map some->DenWL K H O l vs->(ns.zip l).lookup f=some d->∃ v,gs.lookup f=some v/\DenW K H O d v
 | [],_,_,_,_,e=>by simp at e
 | n::ns,vs,[],_,_,e=>by simp at e
 | n::ns,vs,x::l,h,t,e=>by
  rw[DenWL] at t;obtain⟨v,us,rfl,t1,t2⟩:=t;simp only[map_cons,List.cons.injEq] at h;rw[List.zip_cons_cons,lookup_cons] at e;by_cases q:(f==n)=true
  .rw [q] at e;cases e;exact⟨v,by rw[eq_of_beq q];exact h.1,t1⟩
  .rw [Bool.not_eq_true] at q;rw[q] at e;exact zHb h.2 t2 e
theorem zRg (j:GM X e g)(S:attributeBase e fl X.env (eval e X.env)=eval e X.env)(L:∀ c,(c,fl,none)∈ob->∀ C,zAp X.K c C->Cls X.K C/\zBM X.K C fl):GM X (.Attribute e fl pos) (fldM ob fl g):=by
 refine(zNC j S).imp fun σ H Q zz115=>?_
 obtain⟨O,G,M,r,K,q,I⟩:=zz115;obtain⟨x,J,q⟩:=bind_some q;split at q
 .rename_i c N l p;by_cases m:(c,fl,none)∈ob
  .rw [if_pos m] at q;obtain⟨w,F,A⟩:=yj.mp q;cases A;refine⟨O,G,M,x,K,J,λv t T B f d=>?_⟩;have b:=d;rw[p,DenW] at b;obtain⟨a,U,rfl,⟨C,D,s,z,R,o,k⟩,v⟩:=b;obtain⟨u,y,i⟩:=zHb k v F;obtain⟨h,E⟩:=L c m C o;exact⟨a,C,D,s,u,rfl,zBc _ _ z,h,E,y,I u t T B f i⟩
  .rw [if_neg m] at q;cases q
 .rename_i c N n p;by_cases m:(c,fl,none)∈ob
  .rw [if_pos m] at q;obtain⟨V,P,q⟩:=bind_some q;obtain⟨w,F,A⟩:=yj.mp q;cases A;refine⟨O,G,M,x,K,J,λv t T B f d=>?_⟩;rw[p,DenW] at d;obtain⟨a,j,rfl⟩:=d;obtain⟨C,D,s,z,R,o,k,v⟩:=f.cell' j P;subst k;obtain⟨u,y,i⟩:=zGh v F;obtain⟨h,E⟩:=L c m C o;exact⟨a,C,D,s,u,rfl,z,h,E,y,I u t T B f i⟩
  .rw [if_neg m] at q;cases q
 .cases q
noncomputable def clsW (m:Str):W->Option Str
 | .obj c _ _=>if zE7.contains m=true then none else some c
 | .ob c ns _=>if ns.contains m=true then none else some c
 | _=>none
theorem zKo {K:W.Frag}(o:zAD K H O M)(h:clsW m w=some c)(d:DenW K H O w v):∃ a C dx gs,v=.ref a/\H a=some (.ins C dx gs)/\zAp K c C/\gs.lookup m=none:=by
 unfold clsW at h;split at h
 .by_cases q:zE7.contains m=true
  .rw [if_pos q] at h;cases h
  rw[if_neg q] at h;cases h;obtain⟨a,t,rfl,⟨C,dx,gs,f,i,b,g⟩,j⟩:=d;exact⟨a,C,dx,gs,rfl,zBc _ _ f,b,zKg i (by simpa using q)⟩
 .rename_i s k n;by_cases q:k.contains m=true
  .rw [if_pos q] at h;cases h
  rw[if_neg q] at h;cases h;rw[DenW] at d;obtain⟨a,l,rfl⟩:=d;obtain⟨r,p,C,dx,gs,f,i,b,g,j⟩:=o.cell l;refine⟨a,C,dx,gs,rfl,f,b,?_⟩;cases e:gs.lookup m with
  | none=>rfl
  | some v =>
   refine absurd ?_ q;rw[<- g,List.contains_iff_mem];exact mem_map.mpr ⟨_,PySem.mem_of_lookup e,rfl⟩
 .cases h
theorem zDx (hbase:attributeBase o m env (eval o env)=eval o env)(hfew:methodCallForm (args.length+([]:List Keyword).length) (backTo pos (starEach args env)) (backToKw pos (keywordEach [] env))=true)(hline:(apos.endLine==pos.line)=true) :
  eval (.Call (.Attribute o m apos) args [] pos) env=(do
   let ov<-eval o env
   standAt apos.atName
   let (f,first)<-holding [ov] (getMethod ov m (do return (<- importBound o env).getD true))
   callWith pos f first (backTo pos (starEach args env)) (backToKw pos (keywordEach [] env))):=by
 rw[arm_eval_Call,hbase];unfold methodCall calleeOf methodCallPos;simp only[hfew,hline,if_true,Bool.not_true,Bool.or_true,pure_bind]
noncomputable def mthM (B:Dm)(ix:List (Str×Nat))(m:Str)(f:Mst->Option MR)(g:Mst->Option MA):Mst->Option MR:=λs=>(f s).bind λx=>(clsW m x.1).bind λc=>(ix.lookup c).bind λn=>(B[n]?).bind λe=>if spec.lookup e.1=some (.mth c m) then (g ⟨s.G,x.2⟩).bind λws=>e.2 (x.1::ws.1) ws.2 else none
theorem zRb {m:Str}{o:Expr}{h pos:Pos}{e:Expr}{es:List Expr}{ix:List (Str×Nat)}{f:Mst->Option MR}{g:Mst->Option MA}(he:GM X o f)(ha:GAM X (e::es) g)(d:DmOk X.prog X.w X.K X.mg X.base k B)(hr:Room k X.A)
  (u:starEach (e::es) X.env=(false,eval e X.env)::starEach es X.env) (z:(backTo pos (starEach es X.env)).any (·.1)=false) (i:attributeBase o m X.env (eval o X.env)=eval o X.env) (l:methodCallForm ((e::es).length+([]:List Keyword).length) (backTo pos (starEach (e::es) X.env)) (backToKw pos (keywordEach [] X.env))=true) (j:(h.endLine==pos.line)=true):GM X (.Call (.Attribute o m h) (e::es) [] pos) (mthM B ix m f g):=by
 intro p s σ H Q I ⟨O,G,M,r,L,q,cc⟩;obtain⟨x,ex,q⟩:=bind_some q;obtain⟨c,hc,q⟩:=bind_some q;obtain⟨n,en,q⟩:=bind_some q;obtain⟨b,V,q⟩:=bind_some q;by_cases hk:spec.lookup b.1=some (.mth c m)
 .rw [if_pos hk] at q;obtain⟨w,ew,q⟩:=bind_some q;have D:=d b.1 b.2 (mem_of_getElem? V);rw[hk] at D;obtain⟨C,fa,fd,ps,d1,W,E,S,d5⟩:=D;refine zOI (C:=C) he W E S hr d5 .nil zH2 ha u z (zDx i l j) p s σ H Q I ?_;refine⟨O,G,M,x,L,ex,λv H1 T A J K=>?_⟩;obtain⟨a,C',dx,gs,rfl,Z,R,P⟩:=zKo J hc K;obtain rfl:=zEG d1 R;refine⟨a,dx,gs,rfl,Z,P,O++T,G,x.2,w,L.next A J,ew,λus H2 y F c2 t=>?_⟩;show spM X.K b.2 (.ref a::(us++[])) H2 Q E0;rw[append_nil];exact⟨O++T++y,w.2,x.1::w.1,r,c2,.cons (K.mono F y) t,q,λv Y U N c3 E=>cc v Y (T++(y++U)) (A.trans (F.trans N)) (by simp_all) (by simp_all)⟩
 .rw [if_neg hk] at q;cases q
theorem zPF (t:GM X o f)(d:DmOk X.prog X.w X.K X.mg X.base k B)(R:Room k X.A)(g:attributeBase o m X.env (eval o X.env)=eval o X.env)(e:(apos.endLine==pos.line)=true):GM X (.Call (.Attribute o m apos) [] [] pos) (mthM B ix m f nilM):=by
 intro h s σ H Q I ⟨O,G,M,r,U,q,p⟩;obtain⟨x,y,q⟩:=bind_some q;obtain⟨c,A,q⟩:=bind_some q;obtain⟨n,en,q⟩:=bind_some q;obtain⟨b,S,q⟩:=bind_some q;by_cases hk:spec.lookup b.1=some (.mth c m)
 .rw [if_pos hk] at q;obtain⟨ws,Y,q⟩:=bind_some q;cases Y;have D:=d b.1 b.2 (mem_of_getElem? S);rw[hk] at D;obtain⟨C,fa,fd,ps,u,w,i,Z,V⟩:=D;refine zLV (C:=C) t w i Z R V .nil zH2 (zDx g rfl e) h s σ H Q I ?_;refine⟨O,G,M,x,U,y,λv H1 T k1 j l=>?_⟩;obtain⟨a,C',P,K,rfl,F,W,J⟩:=zKo j A l;obtain rfl:=zEG u W;refine⟨a,P,K,rfl,F,J,O++T,x.2,[x.1],r,j,.cons l .nil,q,λv z L N E i=>p v z (T++L) (k1.trans N) (by rw[<- qJ];exact E) (by rw[<- qJ];exact i)⟩
 .rw [if_neg hk] at q;cases q
theorem zQM {σ:St}(M:Mk X.K C f)(F:FnOk X.prog X.w X.K X.mg X.base CX0 k f fd ps sp)(g:Room (k+1) X.A)
  (l:∀ (s':Shared) (x:Addr),X.K.In s'.heap->(Value.ref x::fus).length=ps.length->BindsTo s' fd ⟨.ref x::us,kw⟩ (ps.zip (.ref x::fus))) (I:Inv X pins σ H s) (r:Vals vs fus)
  (h:∀ x dx,H x=none->H dx=none->dx≠x->sp (.ref x::vs) (upd (upd H dx (.own x)) x (.ins C dx [])) (λv H2=>v=.non/\Q (.ref x) H2) E0) :
  wpAny (model X.prog X.w) X.A (call (.ref C) us kw) (EP X pins σ Q) X.xe s:=by
 have c:=h (s.heap.objs.size+1) s.heap.objs.size (I.hok.fresh (Nat.le_succ _)) (I.hok.fresh (le_refl _)) (ne_of_lt (Nat.lt_succ_self _));have b:=Inv.made (C:=C) I;have r2:Vals (V.ref (s.heap.objs.size+1)::vs) _:=.cons rfl r;have j:(Value.ref (s.heap.objs.size+1)::fus).length=ps.length:=by
  have e:=r2.length;rw[F.len _ _ _ _ c] at e;exact e.symm
 refine wpAny_call (zLk (f:=f) I.kIn M.makes M.init (beq_iff_eq.mp M.fn) (codeAny_mono (F.run _ X.stack _ _ _ (Value.ref (s.heap.objs.size+1)::fus) _ _ E0 (g.make C us kw)
  (b.env0.make C us kw) (l _ _ b.kIn j) r2 c) λr s' a=>?_))
 cases r with
 | error e=>exact a.elim
 | ok n =>
  cases n with
  | ret u =>
   obtain⟨v,o,p,i,d,m⟩:=b.after a;subst d;exact⟨i,⟨V.ref (s.heap.objs.size+1),o,p,rfl,m⟩⟩
  | next=>exact False.elim a
  | brk=>exact False.elim a
  | cont=>exact False.elim a
noncomputable def zOb (d:Bool):List W:=if d=true then [.dat .non] else []
noncomputable def mkM (B:Dm)(n:Nat)(c kw:Str)(d:Bool)(g:Mst->Option MA):Mst->Option MR:=λs=>(B[n]?).bind λe=>if spec.lookup e.1=some (.mk c kw) then (g s).bind λws=>e.2 (ws.1++zOb d) ws.2 else none
theorem zS2 {n:Nat}{c kw:Str}{b:Bool}{p pos:Pos}{e:Expr}{es:List Expr}{g:Mst->Option MA}(ha:GAM X (e::es) g)(d:DmOk X.prog X.w X.K X.mg X.base k B)(S:Room k X.A)(hg:Gl X c)(v:(c==("__debug__":Str))=false)
  (w:starEach (e::es) X.env=(false,eval e X.env)::starEach es X.env) (y:(backTo pos (starEach es X.env)).any (·.1)=false) (m:b=true->kw ≠ ""):GM X (.Call (.Name c p) (e::es) [] pos) (mkM B n c kw b g):=by
 intro h s σ H Q I ⟨O,G,M,r,ms,q,cc⟩;obtain⟨a,L,q⟩:=bind_some q;by_cases hk:spec.lookup a.1=some (.mk c kw)
 .rw [if_pos hk] at q;obtain⟨i,ew,q⟩:=bind_some q;have D:=d a.1 a.2 (mem_of_getElem? L);rw[hk] at D;obtain⟨j,C,fa,fd,ps,N,d1,J,U,R,d5⟩:=D;refine wpAny_Call_Name_kw (zDG I hg d1 ?_ v);refine W.callWith_K (h₀:=X.base) I.ok.mod.kin J.kp (thn (ha pos h s σ H (λvs f=>∃ T,Kp H f/\zAD X.K f (O++T) i.2/\DenWL X.K f (O++T) i.1 vs) I ⟨O,G,M,i,ms,ew,λvs f T o l t=>⟨T,o,l,t⟩⟩) λus s1 ⟨vs,f,A,K,T,o,l,t⟩=>⟨A.kIn,?_⟩) w y;have Z:Vals (if b=true then [V.non] else []) (if b=true then [Value.none] else []):=by
   cases b with
   | true=>exact .cons rfl .nil
   | false=>exact .nil
  refine zQM (fus:=us++if b=true then [Value.none] else []) J U (S.mono N) (λs' x F E=>?_) A (K.append Z) λx dx n1 Y n3=>?_
  .cases b with
   | true=>exact(d5 (m rfl)).1 s' (.ref x::us) F E
   | false =>
    have u:((Value.ref x::us)++[]).length=ps.length:=E;exact R s' (.ref x::us) F u
  .refine ⟨x,dx,f,_,O++T,i.2,i.1++zOb b,r,rfl,n1,Y,n3,rfl,l,t.append ?_,q,λH' T' k2 c2 z=>⟨rfl,cc (.ref x) H' (T++T') (o.trans k2) (by rw[<- qJ];exact c2) (by rw[<- qJ];exact z)⟩⟩;cases b with
   | true=>exact .cons (by rw[DenW,Den]) .nil
   | false=>exact .nil
 .rw [if_neg hk] at q;cases q
end
section
variable {K:W.Frag}{H:Hp}{O:List CA}{M:Mem}{σ:St}{G:List (Option W)}
theorem MS.chgG (b:MS K H O M σ G){n:Nat}{a:Addr}{k:CK}{o:HO}{ws:List W}(d:O[n]?=some (a,k))(f:fz1 o=none)(t:Kp H (upd H a o)->zBB K (upd H a o) O a ws k):MS K (upd H a o) O (M.set n ws) σ G/\Kp H (upd H a o):=by
 have g:n < M.length:=by rw[<- b.cells.len];exact(zzg d).1
 obtain⟨c,e⟩:=b.cells.chgG g d f t;have m:=b.next (T:=[]) e (by rw[append_nil];exact c);rw[append_nil] at m;exact⟨m,e⟩
theorem DenWL.erase:∀ {ws:List W} {vs:List V} (j:Nat),DenWL K H O ws vs->DenWL K H O (ws.eraseIdx j) (vs.eraseIdx j)
 | [],_,_,h=>by rw[DenWL] at h;subst h;exact .nil
 | _::_,_,0,h=>by rw[DenWL] at h;obtain⟨v,us,rfl,_,h3⟩:=h;exact h3
 | _::ws,_,j+1,h=>by
  rw[DenWL] at h;obtain⟨v,us,rfl,a,h3⟩:=h;exact .cons a (DenWL.erase j h3)
theorem DenWL.take:∀ {ws:List W} {vs:List V} (j:Nat),DenWL K H O ws vs->DenWL K H O (ws.take j) (vs.take j)
 | [],_,_,h=>by rw[DenWL] at h;subst h;rw[List.take_nil,List.take_nil];exact .nil
 | _::_,_,0,h=>.nil
 | _::ws,_,j+1,h=>by
  rw[DenWL] at h;obtain⟨v,us,rfl,h2,h3⟩:=h;exact .cons h2 (DenWL.take j h3)
theorem DenWL.drop:∀ {ws:List W} {vs:List V} (j:Nat),DenWL K H O ws vs->DenWL K H O (ws.drop j) (vs.drop j)
 | [],_,_,h=>by rw[DenWL] at h;subst h;rw[List.drop_nil,List.drop_nil];exact .nil
 | _::_,_,0,h=>h
 | _::ws,_,j+1,h=>by
  rw[DenWL] at h;obtain⟨v,us,rfl,h2,h3⟩:=h;exact DenWL.drop j h3
theorem DenWL.rev:∀ {ws:List W} {vs:List V},DenWL K H O ws vs->DenWL K H O ws.reverse vs.reverse
 | [],_,h=>by rw[DenWL] at h;subst h;exact .nil
 | _::ws,_,h=>by
  rw[DenWL] at h;obtain⟨v,us,rfl,h2,h3⟩:=h;rw[reverse_cons,reverse_cons];exact(DenWL.rev h3).append (.cons h2 .nil)
noncomputable def zDZ:List W->Option (List Int)
 | []=>some []
 | .dat (.int i)::ws=>(zDZ ws).map λis=>i::is
 | _=>none
theorem zDv:∀ {ws:List W} {vs:List V} {is:List Int},zDZ ws=some is->DenWL K H O ws vs->vs=is.map V.int
 | [],_,_,e,h=>by cases e;rw[DenWL] at h;exact h
 | w::ws,vs,is,e,h=>by
  unfold zDZ at e;split at e
  .rename_i z;cases z
  .rename_i i ws' z;cases z;obtain⟨js,e1,rfl⟩:=yj.mp e;rw[DenWL] at h;obtain⟨v,us,rfl,h2,h3⟩:=h;rw[DenW,Den] at h2;rw[h2,zDv e1 h3]
   rfl
  .cases e
end
section
variable {X:Cx}
noncomputable def lmM (t f:Mst->Option MR)(op:List W->W->Option (List W)):Mst->Option OutM:=λs=>(t s).bind λx=>match x.1 with
 | .loc n=>(f ⟨s.G,x.2⟩).bind λr=>(r.2[n]?).bind λws=>(op ws r.1).bind λws'=>some (.nx ⟨s.G,r.2.set n ws'⟩)
 | _=>none
def LmOk (K:W.Frag)(r:V->List V->Hp->VK->Prop)(op:List W->W->Option (List W)):Prop :=
 ∀ (H:Hp) (O:List CA) (ws ws':List W) (w:W) (vs:List V) (y:V) (l:Addr),op ws w=some ws'->DenWL K H O ws vs->DenW K H O w y->H l=some (.lst vs)->∃ vs',DenWL K H O ws' vs'/\∀ Q:VK,Q .non (upd H l (.lst vs'))->r (.ref l) [y] H Q
theorem zRS {v:String}(j:Slot "list" name v)(C:typeOf (.builtin v)=pure (.type "method_descriptor"))(hm:MtR X v r)(S:LmOk X.K r op)(Y:GM X b t)(h:GM X e f)
  (u:starEach [e] X.env=[(false,eval e X.env)]) (d:attributeBase b name X.env (eval b X.env)=eval b X.env) (c:(apos.endLine==cpos.line)=true) :
  GSM X (.Expr (.Call (.Attribute b name apos) [e] [] cpos) pos) (lmM t f op):=λH0 l=>(zDB (zGd PySem.F.plainAttrs_list j C hm Y (zAR h zAs u) d (by rw[u];rfl) c u rfl) rfl).imp λE σ H g=>by
 obtain⟨T,s,o,B,k,e,p⟩:=g;obtain⟨x,P,e⟩:=bind_some e;split at e
 .rename_i n R;obtain⟨r,W,e⟩:=bind_some e;obtain⟨U,V,e⟩:=bind_some e;obtain⟨z,O,e⟩:=bind_some e;cases e;refine⟨l++T,s.G,s.M,x,B,P,λv H1 q A w I=>?_⟩;rw[R,DenW] at I;obtain⟨a,G,rfl⟩:=I;obtain⟨_,M,_,q2,_⟩:=w.loc G;refine⟨.inl ⟨rfl,_,SqL.of q2⟩,l++T++q,s.G,x.2,r,B.next A w,W,λy H2 m J F Z=>?_⟩;have i:=zA3 (T:=m) G;obtain⟨K,D,L⟩:=F.loc' i V;obtain⟨N,g4,Q⟩:=S H2 _ U z r.1 K y a O L Z D;refine Q _ ?_;obtain⟨E,kp⟩:=((B.next A w).next J F).chg i D g4;rw[show l++T++q++m=l++(T++q++m) by simp] at E;exact p (T++q++m) σ _ E (k.trans (A.trans (J.trans kp)))
 .cases e
noncomputable def remW (ws:List W)(w:W):Option (List W):=match w with
 | .dat (.int k)=>(zDZ ws).bind λis=>(posI k is).map λj=>ws.eraseIdx j
 | _=>none
theorem zQO {K:W.Frag}:LmOk K zIx remW:=λH O m h w i y l e a c g=>by
 unfold remW at e;split at e
 .rename_i k;obtain⟨b,d,e⟩:=bind_some e;obtain⟨j,f,rfl⟩:=yj.mp e;have z:=zDv d a;subst z;subst c;exact⟨_,a.erase j,λQ q=>⟨l,b,k,j,rfl,rfl,g,f,q⟩⟩
 .cases e
noncomputable def insM (t kk f:Mst->Option MR):Mst->Option OutM:=λs=>(t s).bind λx=>match x.1 with
 | .loc n=>(kk ⟨s.G,x.2⟩).bind λj=>(f ⟨s.G,j.2⟩).bind λr=>match j.1 with
  | .dat (.int i)=>(r.2[n]?).bind λws=>if 0<=i/\i<=ws.length/\ws.length<=10000 then some (.nx ⟨s.G,r.2.set n (ws.take i.toNat++r.1::ws.drop i.toNat)⟩) else none
  | _=>none
 | _=>none
theorem zO8 (U:GM X b t)(hk:GM X ke kk)(h:GM X e f)(D:starEach [ke,e] X.env=(false,eval ke X.env)::starEach [e] X.env)(c:starEach [e] X.env=[(false,eval e X.env)])
  (l:attributeBase b "insert" X.env (eval b X.env)=eval b X.env) (d:(apos.endLine==cpos.line)=true) :
  GSM X (.Expr (.Call (.Attribute b "insert" apos) [ke,e] [] cpos) pos) (insM t kk f):=λH0 v=>(zDB (zGd PySem.F.plainAttrs_list PySem.F.slot_list_insert PySem.F.type_list_insert zJT U (zAR hk (zAR h zAs c) D) l (by rw[D,c];rfl) d D (by rw[c];rfl)) rfl).imp λE σ H g=>by
 obtain⟨T,s,o,ms,k,e,p⟩:=g;obtain⟨x,P,e⟩:=bind_some e;split at e
 .rename_i n S;obtain⟨j,Q,e⟩:=bind_some e;obtain⟨r,R,e⟩:=bind_some e;split at e
  .rename_i i ei;obtain⟨N,Y,e⟩:=bind_some e;by_cases hl:0<=i/\i<=N.length/\N.length<=10000
   .rw [if_pos hl] at e;cases e;refine⟨v++T,s.G,s.M,x,ms,P,λv H1 u z A I=>?_⟩;rw[S,DenW] at I;obtain⟨a,K,rfl⟩:=I;obtain⟨_,a0,_,V,_⟩:=A.loc K;refine⟨.inl ⟨rfl,_,SqL.of V⟩,v++T++u,s.G,x.2,j,ms.next z A,Q,λy H2 q E F O=>?_⟩;refine⟨v++T++u++q,s.G,j.2,r,(ms.next z A).next E F,R,λw H3 C J L d3=>?_⟩;rw[ei,DenW,Den] at O;subst O;have m:=zA3 (T:=C) (zA3 (T:=q) K);obtain⟨W,G,B⟩:=L.loc' m Y;refine⟨a,W,i,w,rfl,rfl,G,hl.1,by rw[<- B.length];exact hl.2.1,by rw[<- B.length];omega,?_⟩;obtain⟨M,Z⟩:=(((ms.next z A).next E F).next J L).chg m G ((B.take i.toNat).append (.cons d3 (B.drop i.toNat)));rw[show v++T++u++q++C=v++(T++u++q++C) by simp] at M;exact p (T++u++q++C) σ _ M (k.trans (z.trans (E.trans (J.trans Z))))
   .rw [if_neg hl] at e;cases e
  .cases e
 .cases e
noncomputable def idxM (t f:Mst->Option MR):Mst->Option MR:=λs=>(t s).bind λx=>match x.1 with
 | .loc n=>(f ⟨s.G,x.2⟩).bind λr=>match r.1 with
  | .dat (.int k)=>(r.2[n]?).bind λws=>(zDZ ws).bind λis=>(posI k is).map λ(j:Nat)=>(.dat (.int (j:Int)),r.2)
  | _=>none
 | _=>none
theorem zRf (N:GM X b t)(h:GM X e f)(i:starEach [e] X.env=[(false,eval e X.env)])(d:attributeBase b "index" X.env (eval b X.env)=eval b X.env)(g:(apos.endLine==cpos.line)=true) :
  GM X (.Call (.Attribute b "index" apos) [e] [] cpos) (idxM t f):=(zGd PySem.F.plainAttrs_list PySem.F.slot_list_index PySem.F.type_list_index zLi N (zAR h zAs i) d (by rw[i];rfl) g i rfl).imp fun σ H Q zz118=>by
 obtain⟨O,G,M,r,o,e,c⟩:=zz118;obtain⟨x,D,e⟩:=bind_some e;split at e
 .rename_i n A;obtain⟨r,K,e⟩:=bind_some e;split at e
  .rename_i k P;obtain⟨W,R,e⟩:=bind_some e;obtain⟨y,F,e⟩:=bind_some e;obtain⟨j,J,e⟩:=yj.mp e;cases e;refine⟨O,G,M,x,o,D,λv V w v q l=>?_⟩;rw[A,DenW] at l;obtain⟨a,m,rfl⟩:=l;obtain⟨_,E,_,C,_⟩:=q.loc m;refine⟨.inl ⟨rfl,_,SqL.of C⟩,O++w,G,x.2,r,o.next v q,K,λy L u I p s=>?_⟩;rw[P,DenW,Den] at s;subst s;obtain⟨U,B,S⟩:=p.loc' (zA3 (T:=u) m) R;have z:=zDv F S;subst z;exact⟨a,y,k,j,rfl,rfl,B,J,c _ L (w++u) (v.trans I) (by rw[<- qJ];exact p) (by rw[DenW,Den])⟩
  .cases e
 .cases e
noncomputable def setA (f:Str)(w:W):List Str->List W->List W
 | n::ns,x::ws=>if n=f then w::ws else x::setA f w ns ws
 | _,ws=>ws
theorem zHA {K:W.Frag}{H:Hp}{O:List CA}{f:Str}{w:W}{v:V}(hw:DenW K H O w v):∀ {gs:List (Str×V)} {ws:List W},f∈gs.map (·.1)->DenWL K H O ws (gs.map (·.2))->(putF f v gs).map (·.1)=gs.map (·.1)/\DenWL K H O (setA f w (gs.map (·.1)) ws) ((putF f v gs).map (·.2))
 | [],_,h,_=>absurd h (by simp)
 | (g,u)::r,[],_,t=>by rw[map_cons,DenWL] at t;cases t
 | (g,u)::r,x::ws,h,t=>by
  rw[map_cons,DenWL] at t;obtain⟨v',us,e1,t1,t2⟩:=t;cases e1;rw[show setA f w (((g,u)::r).map (·.1)) (x::ws)=if g=f then w::ws else x::setA f w (r.map (·.1)) ws from rfl];unfold putF;by_cases q:g=f
  .rw [if_pos q,if_pos q];exact⟨by rw[map_cons,map_cons,q],.cons hw t2⟩
  .rw [if_neg q,if_neg q];have hm:f∈r.map (·.1):=by
    rw[map_cons,mem_cons] at h;rcases h with z | z
    .exact absurd z.symm q
    .exact z
   obtain⟨i1,i2⟩:=zHA hw hm t2;exact⟨by rw[map_cons,map_cons,i1],.cons t1 i2⟩
theorem zLP {f:Str}{v:V}{a:List (Str×V)}(h:(putF f v a).map (·.1)=a.map (·.1)):mutF (putF f v a)=mutF a:=by unfold mutF;rw[h]
theorem zJr {K:W.Frag}{H:Hp}{O:List CA}{M:Mem}{σ:St}{G:List (Option W)}{n:Nat}{a C dx:Addr}{c f:Str}{ns:List Str}{b:List (Str×V)}{ws:List W}{w:W}{v:V}(h:MS K H O M σ G)(j:O[n]?=some (a,.ins c ns))(q:H a=some (.ins C dx b))(m:mutF b=true)(e:zAp K c C)(g:b.map (·.1)=ns)(o:DenWL K H O ws (b.map (·.2)))(i:ns.contains f=true)(k:DenW K H O w v) :
  MS K (upd H a (.ins C dx (putF f v b))) O (M.set n (setA f w ns ws)) σ G/\Kp H (upd H a (.ins C dx (putF f v b))):=by
 subst g;obtain⟨d,l⟩:=zHA k (List.contains_iff_mem.mp i) o;have mu:=(zLP d).trans m;exact h.chgG j (if_pos mu) λkp=>⟨C,dx,_,zAJ,mu,e,d,l.keep kp⟩
noncomputable def zMK (ob:List (Str×Str×Option Bool))(t:Mst->Option MR)(f:Str)(g:Mst->Option MR):Mst->Option OutM:=λs=>(g s).bind λr=>(t ⟨s.G,r.2⟩).bind λx=>match x.1 with
 | .ob c ns n=>if (c,f,none)∈ob/\ns.contains f=true/\ns.length<=100 then (x.2[n]?).bind λws=>some (.nx ⟨s.G,x.2.set n (setA f r.1 ns ws)⟩) else none
 | _=>none
theorem zL5 (M:GM X o t)(h:GM X e g)(P:swapsWith e (some (.Attribute o fl pos')) pos.line X.env=pure false)(R:∀ c,(c,fl,none)∈ob->∀ C,zAp X.K c C->Cls X.K C/\zBM X.K C fl) :
  GSM X (.Assign [.Attribute o fl pos'] e pos) (zMK ob t fl g):=λH0 f=>(zM8 M h P).imp λE σ H b=>by
 obtain⟨T,s,o,l,k,e,p⟩:=b;obtain⟨r,S,e⟩:=bind_some e;obtain⟨x,I,e⟩:=bind_some e;split at e
 .rename_i c D n J;by_cases q:(c,fl,none)∈ob/\D.contains fl=true/\D.length<=100
  .rw [if_pos q] at e;obtain⟨Y,U,e⟩:=bind_some e;cases e;refine⟨f++T,s.G,s.M,r,l,S,λy W d m A G=>?_⟩;refine⟨f++T++d,s.G,r.2,x,l.next m A,I,λv Z i j w u=>?_⟩;rw[J,DenW] at u;obtain⟨a,E,rfl⟩:=u;obtain⟨C,N,L,v,Q,y,B,O⟩:=w.cell' E U;obtain⟨V,K⟩:=R c q.1 C y;refine⟨a,C,N,L,rfl,v,V,K,?_,?_⟩
   .have:=congrArg List.length B;rw[List.length_map] at this;omega
   .obtain ⟨z,F⟩:=zJr ((l.next m A).next j w) E v Q y B O q.2.1 (G.mono j i);rw[show f++T++d++i=f++(T++d++i) by simp] at z;exact p (T++d++i) σ _ z (k.trans (m.trans (j.trans F)))
  .rw [if_neg q] at e;cases e
 .cases e
noncomputable def addW:W->W->Option W
 | .dat (.int i),.dat (.int j)=>some (.dat (.int (i+j)))
 | _,_=>none
theorem zK3 (h:addW u w=some z):∃ i j,u=.dat (.int i)/\w=.dat (.int j)/\z=.dat (.int (i+j)):=by
 unfold addW at h;split at h
 .simp_all
 .grind
noncomputable def zR1 (ob:List (Str×Str×Option Bool))(t:Mst->Option MR)(f:Str)(g:Mst->Option MR):Mst->Option OutM:=λs=>(t s).bind λx=>match x.1 with
 | .ob c ns n=>if (c,f,none)∈ob/\ns.contains f=true/\ns.length<=100 then (x.2[n]?).bind λws=>((ns.zip ws).lookup f).bind λu=>(g ⟨s.G,x.2⟩).bind λr=>(r.2[n]?).bind λws'=>(addW u r.1).bind λz=>some (.nx ⟨s.G,r.2.set n (setA f z ns ws')⟩)
  else none
 | _=>none
theorem zL6 (hb:GM X o t)(h:GM X e g)(W:∀ c,(c,fl,none)∈ob->∀ C,zAp X.K c C->Cls X.K C/\zBM X.K C fl) :
  GSM X (.AugAssign (.Attribute o fl pos') .Add e pos) (zR1 ob t fl g):=λH0 m=>(zI0 hb h zRI).imp λE σ H b=>by
 obtain⟨T,s,o,D,k,e,p⟩:=b;obtain⟨x,ex,e⟩:=bind_some e;split at e
 .rename_i c G n en;by_cases q:(c,fl,none)∈ob/\G.contains fl=true/\G.length<=100
  .rw [if_pos q] at e;obtain⟨ws,ew,e⟩:=bind_some e;obtain⟨u,Z,e⟩:=bind_some e;obtain⟨r,er,e⟩:=bind_some e;obtain⟨V,F,e⟩:=bind_some e;obtain⟨z,ez,e⟩:=bind_some e;obtain⟨i,j,rfl,ej,rfl⟩:=zK3 ez
   .cases e;refine⟨m++T,s.G,s.M,x,D,ex,λv H1 f E y O=>?_⟩;rw[en,DenW] at O;obtain⟨a,N,rfl⟩:=O;obtain⟨C,dx,gs,h1,h2,L,h4,h5⟩:=y.cell' N ew;obtain⟨U,o2⟩:=W c q.1 C L;subst h4;obtain⟨v0,g1,K⟩:=zGh h5 Z;rw[DenW,Den] at K;subst K;refine⟨a,C,dx,gs,_,rfl,h1,U,o2,g1,m++T++f,s.G,x.2,r,D.next E y,er,λy H2 l Q R S=>?_⟩;rw[ej,DenW,Den] at S;subst S;have d:=zA3 (T:=l) N;obtain⟨C2,A,B,M,Y,I,J,f5⟩:=R.cell' d F;obtain rfl:=zEG L I;refine⟨i,j,rfl,rfl,A,B,M,?_,?_⟩
    .have:=congrArg List.length J;rw[List.length_map] at this;omega
    .obtain ⟨P,kp⟩:=zJr (w:=.dat (.int (i+j))) (v:=.int (i+j)) ((D.next E y).next Q R) d M Y I J f5 q.2.1 (by rw[DenW,Den]);rw[show m++T++f++l=m++(T++f++l) by simp] at P;exact p (T++f++l) σ _ P (k.trans (E.trans (Q.trans kp)))
  .rw [if_neg q] at e;cases e
 .cases e
end
noncomputable def zAj (k:List Int):List W->Option W
 | []=>none
 | .tup [d,u]::ws=>if kI d=some k then some u else zAj k ws
 | _::_=>none
noncomputable def repW (k:List Int)(u e:W):W:=match e with
 | .tup [d,x]=>if kI d=some k then .tup [d,u] else .tup [d,x]
 | e=>e
noncomputable def zGE (k:List Int)(d u:W)(ws:List W):List W:=if (zAj k ws).isSome=true then ws.map (repW k u) else ws++[.tup [d,u]]
noncomputable def hasK (k:List Int)(e:W):Bool:=match e with
 | .tup [d,_]=>decide (kI d=some k)
 | _=>false
noncomputable def zBw (k:List Int)(ws:List W):List W:=ws.filter λe=>!(hasK k e)
section
variable {f:Type}[DecidableEq f]{K:W.Frag}{H:Hp}{O:List CA}{enc:List Int->Option f}
theorem zF2 (inj:∀ a b k,enc a=some k->enc b=some k->a=b):∀ {ws:List W} {kvs:List (f×V)} {ks:List Int} {k:f},zBI K H O enc ws kvs->enc ks=some k ->
  (∀ u,zAj ks ws=some u->∃ v,valV kvs k=some v/\DenW K H O u v)/\(zAj ks ws=none->valV kvs k=none)
 | [],_,_,_,h,_=>by
  rw[zBI] at h;subst h;exact⟨(λ_ z=>nomatch z),λ_=>rfl⟩
 | _::ws,_,ks,k,⟨d,ks',k',x,v,r,e1,e2,e3,e4,h5,h6⟩,hk=>by
  subst e1 e4;rw[show zAj ks (.tup [d,x]::ws)=if kI d=some ks then some x else zAj ks ws from rfl,e2];by_cases q:ks'=ks
  .subst q;rw[e3] at hk;cases hk;rw[if_pos rfl,zDd rfl];exact⟨(λu z=>by cases z;exact⟨v,rfl,h5⟩),(λz=>nomatch z)⟩
  .rw [if_neg (λz=>q (xY z)),zDe (λz=>q (inj _ _ k' e3 (by rw[show k'=k from z];exact hk)))];exact zF2 inj h6 hk
theorem zJf (inj:∀ a b k,enc a=some k->enc b=some k->a=b)(hu:DenW K H O u v):∀ {ws:List W} {kvs:List (f×V)} {ks:List Int} {k:f},zBI K H O enc ws kvs->enc ks=some k ->
  zBI K H O enc (ws.map (repW ks u)) (kvs.map λkv=>if kv.1=k then (kv.1,v) else kv)
 | [],_,_,_,h,_=>by
  rw[zBI] at h;subst h
  rfl
 | _::ws,_,ks,k,⟨d,ks',k',x,w,r,e1,e2,e3,e4,h5,h6⟩,hk=>by
  subst e1 e4;rw[map_cons,map_cons,show repW ks u (.tup [d,x])=if kI d=some ks then .tup [d,u] else .tup [d,x] from rfl,e2];dsimp only;by_cases q:ks'=ks
  .subst q;rw[e3] at hk;cases hk;rw[if_pos rfl,if_pos rfl];exact⟨d,ks',k,u,v,_,rfl,e2,e3,rfl,hu,zJf inj hu h6 e3⟩
  .rw [if_neg (λz=>q (xY z)),if_neg (λz=>q (inj _ _ k' e3 (by rw[show k'=k from z];exact hk)))];exact⟨d,ks',k',x,w,_,rfl,e2,e3,rfl,h5,zJf inj hu h6 hk⟩
theorem zJe (hd:kI d=some ks)(hk:enc ks=some k)(hu:DenW K H O u v):∀ {ws:List W} {kvs:List (f×V)},zBI K H O enc ws kvs->zBI K H O enc (ws++[.tup [d,u]]) (kvs++[(k,v)])
 | [],_,h=>by
  rw[zBI] at h;subst h;exact⟨d,ks,k,u,v,[],rfl,hd,hk,rfl,hu,rfl⟩
 | _::ws,_,⟨d',ks',k',x,w,r,e1,e2,e3,e4,h5,h6⟩=>by
  subst e4;exact⟨d',ks',k',x,w,_,e1,e2,e3,rfl,h5,zJe hd hk hu h6⟩
theorem zNO (inj:∀ a b k,enc a=some k->enc b=some k->a=b)(h:zBI K H O enc ws kvs)(g:kI d=some ks)(c:enc ks=some k)(f:DenW K H O u v) :
  zBI K H O enc (zGE ks d u ws) (putK kvs k v):=by
 obtain⟨j,l⟩:=zF2 inj h c;unfold zGE putK;rw[zEs];cases e:zAj ks ws with
 | none =>
  rw[l e];exact zJe g c f h
 | some x =>
  obtain⟨y,i,_⟩:=j x e;rw[i];exact zJf inj f h c
theorem zJh (inj:∀ a b k,enc a=some k->enc b=some k->a=b):∀ {ws:List W} {kvs:List (f×V)} {ks:List Int} {k:f},zBI K H O enc ws kvs->enc ks=some k->zBI K H O enc (zBw ks ws) (zGD kvs k)
 | [],_,_,_,h,_=>by
  rw[zBI] at h;subst h
  rfl
 | _::ws,_,ks,k,⟨d,ks',k',x,v,r,e1,e2,e3,e4,h5,h6⟩,hk=>by
  subst e1 e4;have ih:=zJh inj h6 hk;have e5:hasK ks (.tup [d,x])=decide (ks'=ks):=by
   show decide (kI d=some ks)=_;rw[e2];by_cases q:ks'=ks
   .rw [q,decide_eq_true rfl,decide_eq_true rfl]
   .rw [decide_eq_false q,decide_eq_false λz=>q (xY z)]
  unfold zBw zGD;rw[filter_cons,filter_cons,e5];by_cases q:ks'=ks
  .have q2:k'=k:=by subst q;rw[e3] at hk;exact xY hk
   rw[decide_eq_true q];dsimp only;rw[q2,if_neg (by decide),if_neg (by simp)];exact ih
  .have q2:¬ k'=k:=λz=>q (inj _ _ k' e3 (by rw[z];exact hk))
   rw[decide_eq_false q,if_pos (by decide)];dsimp only;rw[if_pos (decide_eq_true q2)];exact⟨d,ks',k',x,v,_,rfl,e2,e3,rfl,h5,ih⟩
theorem zJg:∀ {ws:List W} {kvs:List (f×V)},zBI K H O enc ws kvs->ws.length=kvs.length
 | [],_,h=>by rw[zBI] at h;subst h;rfl
 | _::ws,_,⟨d,ks',k',x,v,r,e1,e2,e3,e4,h5,h6⟩=>by rw[e4,x9,x9,zJg h6]
end
theorem injK:∀ a b k,encK a=some k->encK b=some k->a=b:=λa b k d c=>by
 unfold encK at d c;split at d<;>split at c<;>first | cases d;cases c;rfl | cases d;done | cases c
theorem injT:∀ a b k,encT a=some k->encT b=some k->a=b:=λa b k d c=>by
 unfold encT at d c;split at d<;>split at c<;>first | cases d;cases c;rfl | cases d;done | cases c
section
variable {K:W.Frag}{H:Hp}{O:List CA}
theorem zHW (h:kI w=some ks):(∃ i,w=.dat (.int i)/\ks=[i])\/∃ i j,w=.tup [.dat (.int i),.dat (.int j)]/\ks=[i,j]:=by
 unfold kI at h;split at h
 .simp_all
 .cases h;exact .inr ⟨_,_,rfl,rfl⟩
 .cases h
theorem zOl (h:kI w=some ks)(a:ks.length=1)(d:DenW K H O w v):∃ k,encK ks=some k/\v=kV k:=by
 rcases zHW h with ⟨i,rfl,rfl⟩ | ⟨i,j,rfl,rfl⟩
 .rw [DenW] at d;exact⟨Sum.inl i,rfl,d⟩
 .cases a
theorem zRD (h:kI w=some ks)(f:ks.length=2)(d:DenW K H O w v):∃ k b,encT ks=some k/\v=.ref b/\H b=some (.tup (k.map kV)):=by
 rcases zHW h with ⟨i,rfl,rfl⟩ | ⟨i,j,rfl,rfl⟩
 .cases f
 .rw [DenW] at d;obtain⟨a,r,rfl,o,n⟩:=d;obtain⟨p,us,rfl,m,e⟩:=n;obtain⟨q,g,rfl,l,c⟩:=e;subst c;subst m l;exact⟨[Sum.inl i,Sum.inl j],a,rfl,rfl,zBc _ _ o⟩
noncomputable def lenK (t:Bool):Nat:=if t=true then 2 else 1
theorem zKi (c:zBB K H O a ws (.dic t))(i:kI j=some ks)(h:ks.length=lenK t)(l:DenW K H O j y):∃ o,DGet H a y o/\(∀ u,zAj ks ws=some u->∃ v,o=some v/\DenW K H O u v)/\(zAj ks ws=none->o=none):=by
 cases t with
 | false =>
  obtain⟨d,e,g⟩:=c;obtain⟨k,f,rfl⟩:=zOl i h l;exact⟨_,.k e,zF2 injK g f⟩
 | true =>
  obtain⟨d,e,g⟩:=c;obtain⟨k,b,f,rfl,m⟩:=zRD i h l;exact⟨_,.inr ⟨d,k,b,.inl e,rfl,m,rfl⟩,zF2 injT g f⟩
theorem zPn (c:zBB K H O a ws (.dic t))(e:kI j=some ks)(l:ks.length=lenK t)(i:DenW K H O j y)(n:DenW K H O u v)(m:ws.length<=10000) :
  ∃ o,DPut H a y v (upd H a o)/\fz1 o=none/\(Kp H (upd H a o)->zBB K (upd H a o) O a (zGE ks j u ws) (.dic t)):=by
 cases t with
 | false =>
  obtain⟨h,g,d⟩:=c;obtain⟨k,f,rfl⟩:=zOl e l i;exact⟨_,.k g (by rw[<- zJg d];exact Nat.lt_of_le_of_lt m (by decide)),rfl,λkp=>⟨_,zAJ,by have:=(zNO injK d e f n).mono kp [];rwa [append_nil] at this⟩⟩
 | true =>
  obtain⟨h,g,d⟩:=c;obtain⟨k,b,f,rfl,p⟩:=zRD e l i;exact⟨_,.t g p (by rw[<- zJg d];exact Nat.lt_of_le_of_lt m (by decide)),rfl,λkp=>⟨_,zAJ,by have:=(zNO injT d e f n).mono kp [];rwa [append_nil] at this⟩⟩
end
section
variable {X:Cx}
noncomputable def zSH (t:Bool):Mst->Option MR:=λs=>some (.di t s.M.length,s.M++[[]])
theorem zNf {K:W.Frag}(c:zAD K H O M):DenW K H' (O++[(a,.dic t)]) (.di t M.length) (.ref a):=by
 rw[DenW];exact⟨a,by rw[getElem?_append_right (by rw[c.len];omega),c.len,sub_self];rfl,rfl⟩
noncomputable def dixM (t k:Mst->Option MR):Mst->Option MR:=λs=>(t s).bind λx=>(k ⟨s.G,x.2⟩).bind λj=>match x.1 with
 | .di b n=>(kI j.1).bind λks=>if ks.length=lenK b then (j.2[n]?).bind λws=>(zAj ks ws).map λu=>(u,j.2) else none
 | _=>none
theorem zRh (L:X.A.units+1 < cLine)(C:GM X o t)(B:GM X i k)(p:NoSl i):GM X (.Subscript o i pos) (dixM t k):=(zOJ L C B p).imp fun σ H Q zz123=>by
 obtain⟨O,G,M,r,h,q,c⟩:=zz123;obtain⟨x,z,q⟩:=bind_some q;obtain⟨j,y,q⟩:=bind_some q;split at q
 .rename_i b n A;obtain⟨v,K,q⟩:=bind_some q;by_cases hl:v.length=lenK b
  .rw [if_pos hl] at q;obtain⟨S,E,q⟩:=bind_some q;obtain⟨u,P,q⟩:=yj.mp q;cases q;refine⟨O,G,M,x,h,z,λv U l f N g=>⟨O++l,G,x.2,j,h.next f N,y,λy J d R e F=>?_⟩⟩;rw[A,DenW] at g;obtain⟨a,I,rfl⟩:=g;obtain⟨o,D,s,_⟩:=zKi (e.cell' (zA3 (T:=d) I) E) K hl F;obtain⟨w,rfl,m⟩:=s u P;exact⟨a,w,rfl,D,c w J (l++d) (f.trans R) (by rw[<- qJ];exact e) (by rw[<- qJ];exact m)⟩
  .rw [if_neg hl] at q;cases q
 .cases q
noncomputable def nidW (x y:W)(M:Mem):Option MR:=match y with
 | .di b n=>(kI x).bind λks=>if ks.length=lenK b then (M[n]?).bind λws=>some (.dat (.bl (!(zAj ks ws).isSome)),M) else none
 | _=>none
def rNid:R2:=λx y H Q=>∃ a o,y=.ref a/\DGet H a x o/\Q (.bl (!o.isSome)) H
theorem zQl (f:X.A.units+1 < cLine):OpR X (compareOp .NotIn) rNid:=by
 intro b s σ H x y v u Q I e d h;obtain⟨a,o,rfl,g,q⟩:=h;cases d;exact zPo f I g e λs' c=>⟨.bl _,H,c,rfl,q⟩
theorem zOM {K:W.Frag}:OpW K rNid nidW:=λH O M x y z s t Q c e i h n=>by
 unfold nidW at e;split at e
 .rename_i b m;obtain⟨d,j,e⟩:=bind_some e;by_cases hl:d.length=lenK b
  .rw [if_pos hl] at e;obtain⟨f,l,e⟩:=bind_some e;cases e;obtain⟨a,k,rfl⟩:=h;obtain⟨o,r,p,g⟩:=zKi (c.cell' k l) j hl i;have es:o.isSome=(zAj d f).isSome:=by
    cases q:zAj d f with
    | none=>rw[g q];rfl
    | some u=>obtain⟨w,rfl,_⟩:=p u q;rfl
   refine⟨a,o,rfl,r,?_⟩;rw[es];exact n _ H [] (Kp.refl H) (by simp_all) (by rw[DenW,Den])
  .simp_all
 .cases e
theorem zO0 (e:X.A.units+1 < cLine)(d:behindInMarks .NotIn b=false)(h:GM X a f)(c:GM X b g):GTM X (.Compare a [.NotIn] [b] pos) (asBM (twoM f g nidW)) :=
 (zGZ (zQl e) h c d).imp λ_ _ _ q=>zE5 zOM (zGu q)
noncomputable def zMe (t k f:Mst->Option MR):Mst->Option OutM:=λs=>(f s).bind λr=>(t ⟨s.G,r.2⟩).bind λx=>(k ⟨s.G,x.2⟩).bind λj=>match x.1 with
 | .di b n=>(kI j.1).bind λks=>(j.2[n]?).bind λws=>if ks.length=lenK b/\ws.length<=10000 then some (.nx ⟨s.G,j.2.set n (zGE ks j.1 r.1 ws)⟩) else none
 | _=>none
theorem zL8 (M:X.A.units+1 < cLine)(O:GM X b t)(S:GM X ke k)(h:GM X e f)(R:swapsWith e (some (.Subscript b ke spos)) pos.line X.env=pure false):GSM X (.Assign [.Subscript b ke spos] e pos) (zMe t k f):=λH0 l =>
 (zOE M O S h R).imp λE σ H c=>by
 obtain⟨T,s,o,u,K,e,p⟩:=c;obtain⟨r,D,e⟩:=bind_some e;obtain⟨x,L,e⟩:=bind_some e;obtain⟨j,N,e⟩:=bind_some e;split at e
 .rename_i b n U;obtain⟨F,G,e⟩:=bind_some e;obtain⟨Q,I,e⟩:=bind_some e;by_cases hl:F.length=lenK b/\Q.length<=10000
  .rw [if_pos hl] at e;cases e;refine⟨l++T,s.G,s.M,r,u,D,λy H1 g q c1 W=>?_⟩;refine⟨l++T++g,s.G,r.2,x,u.next q c1,L,λv Z m v A C=>?_⟩;refine⟨l++T++g++m,s.G,x.2,j,(u.next q c1).next v A,N,λw H3 d z B J=>?_⟩;rw[U,DenW] at C;obtain⟨a,E,rfl⟩:=C;have i:=zA3 (T:=d) E;obtain⟨o,P,V,Y⟩:=zPn (B.cell' i I) G hl.1 J ((W.mono v m).mono z d) hl.2;refine⟨a,_,rfl,P,?_⟩;obtain⟨m4,y⟩:=(((u.next q c1).next v A).next z B).chgG i V Y;rw[show l++T++g++m++d=l++(T++g++m++d) by simp] at m4;exact p (T++g++m++d) σ _ m4 (K.trans (q.trans (v.trans (z.trans y))))
  .rw [if_neg hl] at e;cases e
 .cases e
noncomputable def zMf (t f:Mst->Option MR):Mst->Option MR:=λs=>(t s).bind λx=>match x.1 with
 | .di false n=>(f ⟨s.G,x.2⟩).bind λj=>(kI j.1).bind λks=>(j.2[n]?).bind λws=>(zAj ks ws).bind λu=>if ks.length=1 then some (u,j.2.set n (zBw ks ws)) else none
 | _=>none
theorem zPG (Y:GM X b t)(h:GM X e f)(p:starEach [e] X.env=[(false,eval e X.env)])(d:attributeBase b "pop" X.env (eval b X.env)=eval b X.env)(g:(apos.endLine==cpos.line)=true) :
  GM X (.Call (.Attribute b "pop" apos) [e] [] cpos) (zMf t f):=(zGd PySem.F.plainAttrs_dict PySem.F.slot_dict_pop PySem.F.type_dict_pop zOd Y (zAR h zAs p) d (by rw[p];rfl) g p rfl).imp fun σ H Q zz125=>by
 obtain⟨O,G,M,r,s,e,c⟩:=zz125;obtain⟨x,ex,e⟩:=bind_some e;split at e
 .rename_i n Z;obtain⟨j,ej,e⟩:=bind_some e;obtain⟨y,S,e⟩:=bind_some e;obtain⟨ws,L,e⟩:=bind_some e;obtain⟨u,U,e⟩:=bind_some e;by_cases hl:y.length=1
  .rw [if_pos hl] at e;cases e;refine⟨O,G,M,x,s,ex,λv H1 B m w K=>?_⟩;rw[Z,DenW] at K;obtain⟨a,C,rfl⟩:=K;obtain⟨a2,_,J,N,_⟩:=w.cell C;refine⟨.inr (.inr (.inl ⟨rfl,.inl ⟨_,N⟩⟩)),O++B,G,x.2,j,s.next m w,ej,λy H2 I z A P=>?_⟩;have l:=zA3 (T:=I) C;obtain⟨i,W,D⟩:=A.cell' l L;obtain⟨k,E,rfl⟩:=zOl S hl P;obtain⟨v,V,g3⟩:=(zF2 injK D E).1 u U;refine⟨a,i,k,v,rfl,rfl,W,V,?_⟩;obtain⟨R,kp⟩:=((s.next m w).next z A).chgG (ws:=zBw y ws) (o:=.dK (zGD i k)) l rfl λkp=>⟨_,zAJ,by have:=(zJh injK D E).mono kp [];rwa [append_nil] at this⟩
   exact c v _ (B++I) (m.trans (z.trans kp)) (by rw[<- qJ];exact R.cells) (by rw[<- qJ];exact g3.keep kp)
  .rw [if_neg hl] at e;cases e
 .cases e
noncomputable def lcpM (f:Mst->Option MR):Mst->Option MR:=λs=>(f s).bind λx=>match x.1 with
 | .loc n=>(x.2[n]?).bind λws=>some (.loc x.2.length,x.2++[ws])
 | _=>none
theorem zRe (o:Gl X "list")(q:X.mg "list"=none)(h:GM X e f)(m:starEach [e] X.env=[(false,eval e X.env)]):GM X (.Call (.Name "list" p) [e] [] pos) (lcpM f):=(zFl zDU o q boot_list (zAR h zAs m) (by decide) (by decide) m rfl).imp fun σ H Q zz126=>by
 obtain⟨O,G,M,r,v,e,c⟩:=zz126;obtain⟨x,w,e⟩:=bind_some e;split at e
 .rename_i n z;obtain⟨C,A,e⟩:=bind_some e;cases e;refine⟨O,G,M,x,v,w,λv g u s d i=>?_⟩;rw[z,DenW] at i;obtain⟨a,t,rfl⟩:=i;obtain⟨k,y,B⟩:=d.loc' t A;refine⟨a,k,rfl,.inl (SqL.of y),λl j=>?_⟩;have b:Same g (upd g l (.lst k)):=zAU j _;exact c _ _ (u++[(l,.lst)]) (s.trans (zAq b)) (by rw[<- qJ];exact d.new b j zAJ (B.mono (zAq b) _)) (by rw[<- qJ];exact zFA d)
 .cases e
noncomputable def lenM (f:Mst->Option MR):Mst->Option MR:=λs=>(f s).bind λx=>match x.1 with
 | .loc n=>(x.2[n]?).bind λws=>some (.dat (.int ws.length),x.2)
 | _=>none
theorem zRd (i:Gl X "len")(k:X.mg "len"=none)(h:GM X e f)(b:starEach [e] X.env=[(false,eval e X.env)]):GM X (.Call (.Name "len" p) [e] [] pos) (lenM f):=(zC0 zDV i k boot_len (zAR h zAs b) (by decide) (by decide) b rfl).imp fun σ H Q zz127=>by
 obtain⟨O,G,M,r,v,e,c⟩:=zz127;obtain⟨x,m,e⟩:=bind_some e;split at e
 .rename_i n o;obtain⟨z,u,e⟩:=bind_some e;cases e;refine⟨O,G,M,x,v,m,λv j w y g d=>?_⟩;rw[o,DenW] at d;obtain⟨a,t,rfl⟩:=d;obtain⟨s,l,q⟩:=g.loc' t u;exact⟨a,s,rfl,.inl (SqL.of l),c _ j w y g (by rw[DenW,Den,q.length])⟩
 .cases e
end
def RawD (h:Heap)(d:Addr)(es:Array DictEntry)(ep:Nat):Prop:=∃ o,h.get? d=some o/\o.ExactDict/\o.data=.dict es ep
section
variable {prog:Program}{w:World}{A:Around}{E:Value->Shared->Prop}{s:Shared}{d it:Addr}{es:Array DictEntry}{ep i:Nat}
theorem RawD.typeIs (x:RawD s.heap d es ep):s.TypeIs (.ref d) "dict":=let ⟨o,ho,hc,_⟩:=x;⟨o,ho,hc.1⟩
theorem RawD.lt (x:RawD h d es ep):d < h.objs.size:=let ⟨_,ho,_⟩:=x;lt_size ho
theorem RawD.at (x:RawD h d es ep)(k:∀ o,h.get? d=some o->h'.get? d=some o):RawD h' d es ep:=let ⟨o,ho,r⟩:=x;⟨o,k o ho,r⟩
theorem zLO (e:(d==sysModules)=false)(b:RawD s.heap d es ep)
  (f:Q (.ref s.heap.objs.size) { s with heap:=s.heap.push { cls:=.type "dict_keyiterator",data:=.fields #[.ref d,.int 0 0,.int es.size 0,.int ep 0] } }) :
  wpAny (model prog w) A (pyIter (.ref d)) Q E s:=by
 obtain⟨o,c,g,a⟩:=id b;refine wpAny_pyIter_slot b.typeIs F.slot_dict_iter (wpAny_call_entry F.slot_dict_iter b.typeIs F.entry_dict_iter ?_ (F.args_dict_iter_1 _));unfold Builtin.«dict.__iter__» Builtin.Dict.dictSlotNone;refine qQ (qQ (wpAny_notOrdered_dict b.typeIs ?_));show wpAny _ _ (pure (Value.ref d)) _ _ s;refine xj ?_;show wpAny _ _ (Builtin.Dict.showsAll d>>=_) _ _ s;unfold Builtin.Dict.showsAll;rw[if_neg (by rw[e];exact qX)];refine qQ (xj (qQ (wpAny_dictEntries c a (qQ (wpAny_dictEpoch c a ?_)))));refine qQ (wpAny_newObj_type (xj ⟨_,rfl,"dict_keyiterator",_,⟨_,get?_push_size _ rfl,rfl⟩,F.slot_dict_keyiterator_next.lookup,?_⟩));simpa [rawInt] using f
theorem zHE (r:A.handled=none)(c:s.heap.IsKeyIter it d i es.size ep)(l:RawD s.heap d es ep)
  (t:∀ e h',es[i]?=some e->h'.IsKeyIter it d (i+1) es.size ep->Heap.SameBut it s.heap h'->Q (some e.key) { s with heap:=h' })
  (p:es.size<=i->∀ h',Heap.ExtBut it s.heap h'->Q none { s with heap:=h' }):wpAny (model prog w) A (pyNext (.ref it)) Q E s:=by
 obtain⟨o,k,n,j⟩:=id c;obtain⟨u,g,q,h⟩:=id l;unfold pyNext;refine qQ (wpAny_attempt (wpAny_callSpecial?_slot (name:=Str.ofString "__next__") c.typeIs F.slot_dict_keyiterator_next (wpAny_call_entry F.slot_dict_keyiterator_next c.typeIs F.entry_dict_keyiterator_next ?_ (F.args_dict_keyiterator_next_1 _))));refine qQ (xj (qQ (qQ ?_)))
 first | refine qQ (wpAny_typeNameOfWhole_keyiter c.typeIs (xj ?_)) | refine qQ (wpAny_typeNameOf_keyiter c.typeIs (xj ?_))
 refine qQ (wpAny_fieldsOf k j ?_);simp only[show Builtin.Dict_items.ownsTuple "dict_keyiterator"=false by decide,Bool.false_eq_true,if_false];show wpAny _ _ (if (Value.ref d==Value.none)=true then _ else _) _ _ s;rw[if_neg (show ¬ ((Value.ref d==Value.none)=true) from qX)];refine qQ (xj (qQ (wpAny_dictEntries g h ?_)));rw[if_neg (by simp)];refine qQ (xj (qQ (wpAny_dictEpoch g h ?_)));rw[if_neg (by simp)];refine xj ?_;simp only[show ¬ ((i:Int) < 0) from by omega,if_false,toNat_natCast];cases e:es[i]? with
 | some y =>
  dsimp only;refine qQ ?_
  first | refine qQ (wpAny_typeNameOfWhole_keyiter c.typeIs (xj ?_)) | refine qQ (wpAny_typeNameOf_keyiter c.typeIs (xj ?_))
  refine qQ (wpAny_isOneOf_keyiter c.typeIs ?_);show wpAny _ _ (setField (.ref it) 1 (rawInt ((i:Int)+1))>>=_) _ _ s;refine qQ (wpAny_setField k j (by simp) ?_);have f:(s.heap.update it (Obj.mapFields (·.setIfInBounds 1 (rawInt ((i:Int)+1))))).IsKeyIter it d (i+1) es.size ep :=
   ⟨_,Heap.get?_update_self _ k (Obj.isFreed_of_fields (Obj.data_mapFields j _)),(Obj.cls_mapFields ..).trans n,by rw[Obj.data_mapFields j];simp[rawInt]⟩
  refine qQ (wpAny_holding (qQ (wpAny_isOneOf_keyiter (s:={ s with heap:=_ }) f.typeIs ?_)));show wpAny _ _ (pure y.key) _ _ _;exact xj (xj ⟨_,rfl,xj (t y _ e f (Heap.SameBut.update ..))⟩)
 | none =>
  dsimp only;refine qQ ?_
  first | refine qQ (wpAny_typeNameOfWhole_keyiter c.typeIs (xj ?_)) | refine qQ (wpAny_typeNameOf_keyiter c.typeIs (xj ?_))
  show wpAny _ _ (setField (.ref it) 0 .none>>=_) _ _ s;refine qQ (wpAny_setField k j (by simp) ?_);show wpAny _ _ (newExc (.type "StopIteration") []>>=_) _ _ _;refine qQ ?_;simp only[newExc,newTuple];refine qQ (wpAny_newObj_type ?_ (by size_fits));refine qQ (m:=firstArgMember _ _) (wpAny_of_eq (a:=Value.none) (by first | rfl | (simp only[firstArgMember];rfl)) ?_);refine wpAny_newObj_type ?_ (by size_fits);simp only[raiseNew];refine qQ (wpAny_handled ?_);rw[show A.in1.handled=none from r];refine qQ (xj (wpAny_throw ?_));refine qQ (wpAny_isInstance (T := "StopIteration") (b:=true) ⟨_,get?_push_size _ rfl,rfl⟩ isSubtype_stop ?_);exact xj (p (by simpa using e) _ (((Heap.SameBut.update ..).extBut.push _).push _))
theorem zN8 (y:(d==sysModules)=false):W.KdlSrc prog w "dict" d d es.size (λi v=>∃ e,es[i]?=some e/\v=e.key) (λh=>RawD h d es ep) where
 type:=λ_ a=>a.typeIs
 there:=λ_ a=>⟨a.lt,a.lt⟩
 keep:=λ_ _ a j=>a.at λo e=>j d (.inl rfl) o e
 notList:=by decide
 notTuple:=by decide
 hint:=λ_ _ _ _ a l=>W.kdl_hint_dict a.typeIs l
 iter:=λA s x a=>⟨_,λi h=>h.IsKeyIter s.heap.objs.size d i es.size ep/\RawD h d es ep,(λ_ _ l=>zLO y a l),by
  have p:d≠s.heap.objs.size:=ne_of_lt a.lt;exact {
   sub:=λb f=>by simp at f;simp[f]
   frame:=λ_ _ _ c j=>⟨c.1.at λo e=>j _ (by simp) o e,c.2.at λo e=>j d (by simp) o e⟩
   item:=λi s' Q E z c g=>zHE x c.1 c.2 (λe k r m u=>g e.key k s'.toks ⟨e,r,rfl⟩ ⟨m,c.2.at λo e=>u.extBut d o p e⟩ λb o f e=>u.extBut b o (λh=>f (by simp[h])) e) λq=>absurd q (by omega)
   done:=λs' Q E c g=>zHE x c.1 c.2 (λe k r _ _=>by simp at r) λ_ k n=>g k s'.toks λb o f e=>n b o (λh=>f (by simp[h])) e
   self:=λ_ _ _ _ c g=>wpAny_pyIter_keyiter c.1 g },⟨⟨_,get?_push_size _ rfl,rfl,rfl⟩,a.at λo e=>get?_push_of_some _ e⟩⟩
end
noncomputable def kRun {O:Type}(c:Nat->Nat->Bool):W.KasT O->O
 | .ret a=>a
 | .ask i j k=>kRun c (k (c i j))
noncomputable def kIn {O:Type}(n:Nat)(r:O->Bool):W.KasT O->Bool
 | .ret a=>r a
 | .ask i j k=>decide (i < n)&&decide (j < n)&&kIn n r (k true)&&kIn n r (k false)
theorem zGo {O:Type}{n:Nat}{r:O->Bool}{c:Nat->Nat->Bool}:∀ {t:W.KasT O},kIn n r t=true->r (kRun c t)=true
 | .ret a,h=>h
 | .ask i j k,h=>by
  unfold kIn at h;rw[yx,yx] at h;unfold kRun;cases c i j
  .exact zGo h.2
  .exact zGo h.1.2
theorem zGn {O:Type}{n:Nat}{r:O->Bool}{c:Nat->Nat->Bool}{cmp:Nat->Nat->(Bool->Shared->Prop)->Shared->Prop}{s:Shared}{Q:O->Shared->Prop}(hc:∀ i j C,i < n->j < n->C (c i j) s->cmp i j C s) :
  ∀ {t:W.KasT O},kIn n r t=true->Q (kRun c t) s->t.kasWp cmp Q s
 | .ret a,_,h=>h
 | .ask i j k,q,h=>by
  unfold kIn at q;rw[yx,yx,yx,qy,qy] at q;unfold kRun at h;refine hc i j _ q.1.1.1 q.1.1.2 ?_;cases e:c i j
  .rw [e] at h;exact zGn hc q.2 h
  .rw [e] at h;exact zGn hc q.1.2 h
noncomputable def kOk (n:Nat):Bool:=kIn n (λp=>decide (p.toList.length=n)&&p.toList.all λi=>decide (i < n)) (W.kas_sort n)
theorem kOk6:∀ n,n<=6->kOk n=true:=by
 intro n h;have:n=0\/n=1\/n=2\/n=3\/n=4\/n=5\/n=6:=by omega
 rcases this with rfl | rfl | rfl | rfl | rfl | rfl | rfl<;>decide +kernel
noncomputable def ltP (a b:Int×Int):Bool:=if a.1==b.1 then decide (a.2 < b.2) else decide (a.1 < b.1)
section
variable {prog:Program}{w:World}{A:Around}{E:Value->Shared->Prop}{s:Shared}
theorem zOf (g:s.heap.get? x=some ox)(dx:ox.data=.seq #[.int a t1,.int b t2] n)(i:s.heap.get? y=some oy)(f:oy.data=.seq #[.int c t3,.int d t4] k)
  (h:Q (ltP (a,b) (c,d)) s):wpAny (model prog w) A (keyLt' (tuples' true) (.ref x) (.ref y)) Q E s:=by
 refine W.kat_lt g dx i f (W.kat_cons (wpAny_eqBool_int ?_));unfold ltP at h;dsimp only at h;cases e:a==c
 .rw [e] at h;exact W.kat_no (oneLt_int (by simpa using h))
 .rw [e] at h;refine W.kat_yes (W.kat_cons (wpAny_eqBool_int ?_));cases e2:b==d
  .exact W.kat_no (W.kat_one _ _ (lt_int (show Q _ _ by simpa using h)))
  .refine W.kat_yes (W.kat_nil ?_);have:b=d:=by simpa using e2
   subst this;simpa using h
end
theorem thaw {σ:St}{D:Addr}(I:Inv X ((D,ob)::pins) σ H s)(t:X.s0.heap.objs.size<=D)(y:∀ p∈X.pn++pins,p.1≠D)
  (k:∀ b u,b≠D->s.heap.get? b=some u->h'.get? b=some u) (new:zBV X.prog X.w (upd H D o) h' D o):Inv X pins σ (upd H D o) { s with heap:=h',toks:=t' }:=by
 obtain⟨e,E,h,G,B⟩:=I.pin (D,ob) (xQ _ (.head _));have m:Inv X pins σ H s:=I.pins_of λp A=>I.pin p (xQ _ (.tail _ A))
 have g:∀ b u,H b=some u->b≠D:=λb u q z=>by rw[z,E] at q;cases q
 have d:∀ b u,H b=some u->upd H D o b=some u:=λb u q=>by rw[zAI (g b u q)];exact q
 refine m.step (g':=s.gens) (d':=s.drawn) (ch:=[D]) (λb j=>?_) (λb o _ _ a e _=>k b o (λz=>a (by simp[z])) e) (λb o _ _ a e _=>⟨o.slots,k b o (λz=>a (by simp[z])) e⟩) (λb o a e n=>by rw[zAI (λz=>a (by simp[z]))];exact n)
  (λb o a e=>⟨o,k b o (λz=>a (by simp[z])) e⟩) (λ_ _ e=>d _ _ e) (λ_ _ _ e=>d _ _ e) (λ_ _ e=>d _ _ e) (λm w=>?_) (λb u q=>?_) I.bare
 .obtain rfl:b=D:=by simpa using j
  exact⟨.inr t,h,λx c q z=>by
   subst z;obtain⟨v,F,f,l⟩:=I.cell x c q;rw[e] at f;cases f;exact B v l,y⟩
 .obtain ⟨o,es,C,f,r⟩:=w;exact⟨o,es,C,k _ o (Ne.symm h) f,r⟩
 .by_cases z:b=D
  .subst z;rw[zAJ] at q;cases q;exact new
  .rw [zAI z] at q;refine(I.hok b u q).stay (λc v a i=>k c v ?_ i) (λ_ q=>d _ _ q) (λ_ _ q=>d _ _ q) λ_ _ _ q _=>d _ _ q
   rcases a with rfl | a
   .exact z
   .exact g c _ a
section
variable {X:Cx}{pins:List (Addr×Obj)}{σ:St}{H Hf:Hp}{s:Shared}{D kS d q:Addr}{e1:Nat}{ks vs:List V}{A:Around}{E:Value->Shared->Prop}{P:PySem.Fin->Shared->Prop}
theorem zIo {st:SortSt}{out:List Value}(I:Inv X ((D,seqObj "list" #[] e1)::pins) σ Hf s)(w:Hf kS=some (.lst ks))(k:X.s0.heap.objs.size<=D)(C:∀ p∈X.pn++pins,p.1≠D)(a:(arrOf st).map (·.2)=out.toArray)(f:failedOf st=none)(r:out.length<=sizeLine)(t:Vals vs out)
  (h:∀ s',Inv X pins σ (upd (upd Hf kS (.lst [])) D (.lst vs)) s'->P (.done (.ret .none)) s'):wpAny (model X.prog X.w) A (ksk_tail D false e1 (.ref kS) st) P E s:=by
 obtain⟨z,d,n,g,v⟩:=(show zBV X.prog X.w Hf s.heap kS (.lst ks) from I.hok _ _ w);have y:=Heap.SameBut.update s.heap kS (Obj.mapSeq λ_=>(#[]:Array Value));obtain⟨l,c⟩:∃ l,(s.heap.update kS (Obj.mapSeq λ_=>(#[]:Array Value))).get? kS=some (seqObj "list" #[] l):=⟨_,get?_update_seq (show s.heap.get? kS=some (seqObj "list" d.toArray n) from v) λ_=>#[]⟩;have o:Inv X ((D,seqObj "list" #[] e1)::pins) σ (upd Hf kS (.lst [])) { s with heap:=s.heap.update kS (Obj.mapSeq λ_=>(#[]:Array Value)) } :=
  I.write (x:=kS) (e:=kS) (t':=s.toks) (by rw[w];exact True.intro) (.inl rfl) (λb u m q=>(y.2 b m).trans q) ⟨_,c⟩ ⟨zero_le _,[],l,.nil,c⟩
 obtain⟨e,F,G,H,J⟩:=o.pin (D,seqObj "list" #[] e1) (xQ _ (.head _));unfold ksk_tail
 try dsimp only
 refine qQ (listUpdate_at v rfl ?_ (by rw[xX,<- g.length];exact z) (zero_le _));refine qQ (wpAny_letGo ?_);refine qQ (seqEpoch_at e rfl ?_);refine qQ (listUpdate_at e rfl ?_ (zero_le _) ?_)
 .rw [f];simp only[bne_self_eq_false,Bool.false_eq_true,if_false];have B:=Heap.SameBut.update (s.heap.update kS (Obj.mapSeq λ_=>(#[]:Array Value))) D (Obj.mapSeq λ_=>(arrOf st).map (·.2));obtain⟨j,i⟩:∃ j,((s.heap.update kS (Obj.mapSeq λ_=>(#[]:Array Value))).update D (Obj.mapSeq λ_=>(arrOf st).map (·.2))).get? D=some (seqObj "list" ((arrOf st).map (·.2)) j):=⟨_,get?_update_seq e λ_=>(arrOf st).map (·.2)⟩;exact xj (h _ (thaw (s:={ s with heap:=s.heap.update kS (Obj.mapSeq λ_=>(#[]:Array Value)) }) o k C (λb u m q=>(B.2 b m).trans q) ⟨by rw[t.length];exact r,out,j,t,by rw[i,a]⟩))
 .simp only [Bool.false_eq_true,if_false];rw[a,xX];exact Nat.le_succ_of_le r
def zMv (H:Hp)(cs:List Addr)(ps:List (Int×Int)):Prop:=cs.length=ps.length/\∀ (j:Nat) c p,cs[j]?=some c->ps[j]?=some p->H c=some (.tup [.int p.1,.int p.2])
noncomputable def ordP (ps:List (Int×Int)):List Nat:=if ps.length < 2 then List.range ps.length else (kRun (λi j=>ltP (ps.getD i (0,0)) (ps.getD j (0,0))) (W.kas_sort ps.length)).toList
theorem zJA (a:ps.length<=6):(ordP ps).length=ps.length/\∀ i∈ordP ps,i < ps.length:=by
 unfold ordP;split
 .exact ⟨length_range,λi z=>mem_range.mp z⟩
 .have:=zGo (c:=λi j=>ltP (ps.getD i (0,0)) (ps.getD j (0,0))) (kOk6 _ a);rw[yx,qy,all_eq_true] at this;exact⟨this.1,λi z=>of_decide_eq_true (this.2 i z)⟩
def zK7 (K:W.Frag)(H:Hp)(cs:List Addr)(ps:List (Int×Int)):Prop:=cs.length=ps.length/\∀ (j:Nat) c p,cs[j]?=some c->ps[j]?=some p->SqT K H c [.int p.1,.int p.2]
theorem zGb (I:Inv X pins σ H s)(pa:zK7 X.K H cs ps)(b:j < ps.length):∃ c o t1 t2 n,cs[j]?=some c/\s.heap.get? c=some o/\o.cls=.type "tuple"/\o.data=.seq #[.int (ps.getD j (0,0)).1 t1,.int (ps.getD j (0,0)).2 t2] n:=by
 have f:ps[j]?=some (ps.getD j (0,0)):=by rw[getD_eq_getElem?_getD,getElem?_eq_getElem b];rfl
 have a:j < cs.length:=by rw[pa.1];exact b
 obtain⟨d,r,⟨o,g,h,n,e⟩,_⟩:=I.tuple (pa.2 j _ _ (getElem?_eq_getElem a) f);obtain⟨i,k,rfl,⟨t1,rfl⟩,⟨t2,rfl⟩⟩:=zHv r;exact⟨_,o,t1,t2,n,getElem?_eq_getElem a,g,h,e⟩
end
section
variable {X:Cx}{pins:List (Addr×Obj)}{σ:St}{H Hf:Hp}{s:Shared}{D kS d q:Addr}{e1:Nat}{ks vs:List V}{A:Around}{E:Value->Shared->Prop}{P:PySem.Fin->Shared->Prop}
theorem zHI (ok:Inv X pins σ H s):∀ {cs:List Addr} {ps:List (Int×Int)},zK7 X.K H cs ps->∃ fs,W.KatTups s.heap (cs.map Value.ref) fs/\fs.length=ps.length/\∀ v∈fs,∃ i t,v=Value.int i t
 | [],[],_=>⟨[],.nil,rfl,λ_ z=>nomatch z⟩
 | [],_::_,pa=>nomatch pa.1
 | _::_,[],pa=>nomatch pa.1
 | c::cs,p::ps,pa=>by
  obtain⟨fs,h1,h2,h3⟩:=zHI ok (cs:=cs) (ps:=ps) ⟨by simpa using pa.1,λj c p q1 q2=>pa.2 (j+1) c p q1 q2⟩;obtain⟨c',o,t1,t2,n,e1,e2,e3,e4⟩:=zGb (j:=0) ok pa (by simp);cases e1;exact⟨_,.cons e2 e3 e4 rfl h1,by simp[h2],λv z=>by
   rcases mem_cons.mp z with rfl | z
   .exact ⟨_,_,rfl⟩
   .exact h3 v z⟩
theorem zIv:∀ {bs:List Addr} {us:List Value},Vals (bs.map V.ref) us->us=bs.map Value.ref
 | [],_,h=>by cases h;rfl
 | b::bs,_,h=>by
  cases h with
  | cons r t=>rw[zIv t,map_cons,show _=Value.ref b from r]
theorem zQK {bs:List Addr}(I:Inv X ((D,seqObj "list" #[] e1)::pins) σ Hf s)(J:Hf kS=some (.lst (cs.map V.ref)))(pa:zK7 X.K Hf cs ps)(f:bs.length=ps.length)(F:ps.length<=6)(g:X.s0.heap.objs.size<=D)(B:∀ p∈X.pn++pins,p.1≠D)
  (h:∀ s',Inv X pins σ (upd (upd Hf kS (.lst [])) D (.lst ((ordP ps).map λi=>V.ref (bs.getD i 0)))) s'->P (.done (.ret .none)) s') :
  wpAny (model X.prog X.w) A (ksk_end D false (bs.map Value.ref).toArray e1 (.ref kS) (cs.map Value.ref).toArray) P E s:=by
 have d:cs.length=bs.length:=pa.1.trans f.symm;have a:(bs.map Value.ref).toArray.size=ps.length:=by rw[xX,List.length_map,f]
 unfold ksk_end
 try dsimp only
 simp only[Bool.false_eq_true,if_false];by_cases e:ps.length < 2
 .rw [if_pos (by rw[a];exact e),if_pos (by rw[a];exact e)];refine qQ (xj ?_);rw[StateT.run_pure];refine qQ (xj ?_)
  try dsimp only
  refine zIo (st:=SortSt.mk' general' ((cs.map Value.ref).toArray.zip (bs.map Value.ref).toArray) #[] 7 none) (out:=bs.map Value.ref) (vs:=bs.map V.ref) I J g B ((by apply Array.toList_inj.mp;simp[List.map_snd_zip,d])) rfl (by rw[List.length_map,sizeLine_eq];omega) (zDm _) λs' U=>h s' ?_
  have:(ordP ps).map (λi=>V.ref (bs.getD i 0))=bs.map V.ref:=by
   unfold ordP;rw[if_pos e,<- f];apply List.ext_getElem (by simp);intro i k e;simp at k;simp[k]
  rw[this];exact U
 .rw [if_neg (by rw[a];exact e),if_neg (by rw[a];exact e)];obtain⟨fs,k,M,Z⟩:=zHI I pa;refine qQ (W.kat_kind (T:=Value.type "int") k (by rw[M];omega) (λv z=>by
   obtain⟨i,t,rfl⟩:=Z v z;exact .now) (by decide) ?_)
  have ek:tuples' (Value.type "int" != Value.type "tuple")=tuples' true:=by rfl
  rw[ek];have y:=kOk6 ps.length F;refine qQ (wpAny_mono (W.kat_run (ks:=cs.map Value.ref) (vs:=bs.map Value.ref) (κ:=tuples' true)
   (Q:=λst' s'=>arrOf st'=(kRun (λi j=>ltP (ps.getD i (0,0)) (ps.getD j (0,0))) (W.kas_sort ps.length)).map (W.kas_item ((cs.map Value.ref).toArray.zip (bs.map Value.ref).toArray))/\failedOf st'=none/\s'=s)
   (G:=λp s'=>p=kRun (λi j=>ltP (ps.getD i (0,0)) (ps.getD j (0,0))) (W.kas_sort ps.length)/\s'=s)
   (by simp[d]) (by rw[List.length_map,f];omega) (by rw[List.length_map,f];omega) (λp st' s' a1 a2 Y H=>⟨by rw[a2,H.1],Y,H.2⟩) (by
    rw[List.length_map,f];exact zGn (λi j C w R hC=>by
     obtain⟨c,o,t1,t2,n,e1,e2,e3,e4⟩:=zGb I pa w;obtain⟨c',o',K,a6,n',q,u,O,x⟩:=zGb I pa R;unfold W.kas_ask;have S:(cs.map Value.ref).getD i Value.none=.ref c:=by rw[getD_eq_getElem?_getD,getElem?_map,e1];rfl
     have L:(cs.map Value.ref).getD j Value.none=.ref c':=by rw[getD_eq_getElem?_getD,getElem?_map,q];rfl
     rw[S,L];exact zOf e2 e4 u x hC) y ⟨rfl,rfl⟩)) ?_ λ_ _ z=>z)
  rintro⟨⟨⟩,st'⟩ s' ⟨har,hf,rfl⟩;dsimp only;have N:ordP ps=(kRun (λi j=>ltP (ps.getD i (0,0)) (ps.getD j (0,0))) (W.kas_sort ps.length)).toList:=by unfold ordP;rw[if_neg e]
  obtain⟨o1,o2⟩:=zJA F;refine zIo (out:=(ordP ps).map λi=>(bs.map Value.ref).getD i Value.none) (vs:=(ordP ps).map λi=>V.ref (bs.getD i 0)) I J g B (by rw[W.kat_snds (by simp[d]) har,N]) hf (by rw[List.length_map,o1,sizeLine_eq];omega) ?_ h;have r:∀ l:List Nat,(∀ i∈l,i < bs.length)->Vals (l.map λi=>V.ref (bs.getD i 0)) (l.map λi=>(bs.map Value.ref).getD i Value.none):=by
   intro l
   induction l with
   | nil=>exact λ_=>.nil
   | cons i l ih =>
    refine λz=>.cons ?_ (ih λj m=>z j (.tail _ m))
    have w:=z i (.head _);show (bs.map Value.ref).getD i Value.none=Value.ref (bs.getD i 0);simp[w]
  exact r _ λi z=>by rw[f];exact o2 i z
theorem zN3 (I:Inv X ((D,seqObj "list" #[] e1)::pins) σ Hf s)(hk:Hf kS=some (.lst []))(sm:Same H Hf)(w:H kS=none)(N:zMv H bs ps)(W:ps.length<=6)(Q:X.s0.heap.objs.size<=D)(np:∀ p∈X.pn++pins,p.1≠D)
  (hf:∀ pins' s1 H1 b p,Inv X pins' σ H1 s1->Same H H1->H1 b=some (.tup [.int p.1,.int p.2])->wpAny (model X.prog X.w) A (call f [.ref b]) (λr s2=>∃ c H2,r=.ref c/\Inv X pins' σ H2 s2/\Same H1 H2/\SqT X.K H2 c [.int (g p).1,.int (g p).2]) (λ_ _=>False) s1)
  (h:∀ s' H',Inv X pins σ (upd H' D (.lst ((ordP (ps.map g)).map λi=>V.ref (bs.getD i 0)))) s'->Same H H'->H' D=none->P (.done (.ret .none)) s') :
  wpAny (model X.prog X.w) A (ksk_rest D f false (bs.map Value.ref).toArray e1 (.ref kS)) P E s:=by
 unfold ksk_rest;refine qQ (wpAny_rule ?_);rw[List.forIn_toArray];refine qQ (ksk_fold (λi s'=>∃ H1 d,Inv X ((D,seqObj "list" #[] e1)::pins) σ H1 s'/\Same H H1/\H1 kS=some (.lst (d.map V.ref))/\zK7 X.K H1 d ((ps.map g).take i)) (bs.map Value.ref) 0 s ⟨Hf,[],I,sm,hk,by simp[zK7]⟩ ?step ?done)
 case step =>
  rintro j x s' S ⟨H1,d,y,m,B,pa⟩;rw[Nat.zero_add] at pa ⊢;rw[getElem?_map] at S;obtain⟨b,K,rfl⟩:=yj.mp S;have hj:j < ps.length:=by rw[<- N.1];exact(zzg K).1
  have R:ps[j]?=some ps[j]:=getElem?_eq_getElem hj;refine qQ (wpAny_attempt (wpAny_mono (hf _ s' H1 b ps[j] y m (m _ _ (N.2 j b _ K R))) (λv a he=>?_) λ_ _ hF=>hF.elim));obtain⟨c,H2,rfl,L,t,hc⟩:=he
  try dsimp only
  have M:=t _ _ B;obtain⟨z,k,n,F,G⟩:=(show zBV X.prog X.w H2 a.heap kS (.lst (d.map V.ref)) from L.hok _ _ M);have hl:d.length<=6:=by rw[pa.1,length_take,List.length_map];omega
  have li:k.length<=6:=by rw[<- F.length,List.length_map];exact hl
  have s1:=Heap.SameBut.update a.heap kS (Obj.mapSeq (·.push (Value.ref c)));obtain⟨O,v⟩:∃ O,(a.heap.update kS (Obj.mapSeq (·.push (Value.ref c)))).get? kS=some (seqObj "list" (k.toArray.push (Value.ref c)) O):=⟨_,get?_update_seq (show a.heap.get? kS=some (seqObj "list" k.toArray n) from G) (·.push (Value.ref c))⟩;refine qQ (listUpdate_at G rfl ?_ (by rw[xX,sizeLine_eq];omega) (le_trans (Nat.le_of_eq (Array.size_push ..)) (by rw[xX,sizeLine_eq];omega)));have T:Inv X ((D,seqObj "list" #[] e1)::pins) σ (upd H2 kS (.lst ((d++[c]).map V.ref))) { a with heap:=a.heap.update kS (Obj.mapSeq (·.push (Value.ref c))) } :=
   L.write (x:=kS) (e:=kS) (t':=a.toks) (by rw[M];exact True.intro) (.inl rfl) (λb u K q=>(s1.2 b K).trans q) ⟨_,v⟩ ⟨by rw[List.length_map,qj,sizeLine_eq];simp;omega,k++[.ref c],O,by rw[yq];exact F.append (.cons rfl .nil),by rw[v];simp[seqObj]⟩
  have nk:∀ b l,SqT X.K H2 b l->SqT X.K (upd H2 kS (.lst ((d++[c]).map V.ref))) b l:=λb l q=>by
   rcases q with q | q
   .rcases q with q | ⟨o,q⟩
    .exact .inl (.inl (by rw[zAI (λz=>by rw[z,M] at q;cases q)];exact q))
    .exact .inl (.inr ⟨o,by rw[zAI (λz=>by rw[z,M] at q;cases q)];exact q⟩)
   .exact .inr q
  refine xj ⟨rfl,_,d++[c],T,λb u q=>?_,zAJ,?_,λi c' U C J=>?_⟩
  .rw [zAI (λz=>by rw[z,w] at q;cases q)];exact t _ _ (m _ _ q)
  .have:=pa.1;rw[length_take,List.length_map] at this;rw[qj,this,length_take,List.length_map];simp;omega
  .refine nk _ _ ?_;have Y:d.length=j:=by rw[pa.1,length_take,List.length_map];omega
   by_cases hi:i < j
   .rw [getElem?_append_left (by omega)] at C;rw[List.getElem?_take_of_lt (by omega)] at J;exact Same.tupS t (pa.2 i c' U C (by rw[List.getElem?_take_of_lt hi];exact J))
   .have:i=j:=by
     have:=(zzg C).1;rw[qj] at this;simp at this;omega
    subst this;rw[getElem?_append_right (by omega),Y,sub_self] at C;cases C;rw[List.getElem?_take_of_lt (by omega),getElem?_map,R] at J;cases J;exact hc
 case done =>
  rintro s' ⟨H1,d,y,m,B,pa⟩;have Z:(ps.map g).take (0+(bs.map Value.ref).length)=ps.map g:=List.take_of_length_le (by rw[List.length_map,List.length_map,N.1];omega);rw[Z] at pa;obtain⟨z,k,n,F,G⟩:=(show zBV X.prog X.w H1 s'.heap kS (.lst (d.map V.ref)) from y.hok _ _ B);obtain rfl:=zIv F;refine qQ (listItems_at G rfl ?_);refine zQK y B pa (by rw[List.length_map,N.1]) (by rw[List.length_map];exact W) Q np λs2 L=>h s2 _ L (λb u q=>?_) ?_
  .rw [zAI (λz=>by rw[z,w] at q;cases q)];exact m _ _ q
  .have q:=(y.pin (D,seqObj "list" #[] e1) (xQ _ (.head _))).2.1;rw[zAI (λz=>by rw[z,B] at q;cases q)];exact q
theorem zNP {kvs:List (List Key×V)}{xs:List (List Key×Addr×Value)}{ps:List (Int×Int)}(t:KT H kvs xs)(e:kvs.map (·.1)=ps.map (λp=>[Sum.inl p.1,Sum.inl p.2])):zMv H (xs.map (·.2.1)) ps:=by
 induction t generalizing ps with
 | nil=>cases ps with
  | nil=>exact⟨rfl,λ_ _ _ z=>by simp at z⟩
  | cons=>cases e
 | cons r t i=>cases ps with
  | nil=>cases e
  | cons p ps=>
   rw[map_cons,map_cons] at e;obtain⟨e1,e2⟩:=List.cons.inj e;obtain⟨l,ih⟩:=i e2;refine⟨by simp[<- l],λj c p' q1 q2=>?_⟩;cases j with
   | zero =>
    cases q1;cases q2;have:=r.2.1;rw[e1] at this;exact this
   | succ j=>exact ih j c p' q1 q2
theorem zIp {Q:Value->Shared->Prop}{kvs:List (List Key×V)}{ps:List (Int×Int)}{g:Int×Int->Int×Int}(x:X.calm=true)(I:Inv X pins σ H s)(e:H d=some (.dT kvs))(ek:kvs.map (·.1)=ps.map (λp=>[Sum.inl p.1,Sum.inl p.2]))(l6:ps.length<=6)
  (hf:∀ pins' s1 H1 b p,Inv X pins' σ H1 s1->Same H H1->H1 b=some (.tup [.int p.1,.int p.2])->wpAny (model X.prog X.w) X.A.in1.in1 (call (.ref q) [.ref b]) (λr s2=>∃ c H2,r=.ref c/\Inv X pins' σ H2 s2/\Same H1 H2/\SqT X.K H2 c [.int (g p).1,.int (g p).2]) (λ_ _=>False) s1)
  (h:∀ D s' H' bs,zMv H bs ps->Inv X pins σ (upd H' D (.lst ((ordP (ps.map g)).map λi=>V.ref (bs.getD i 0)))) s'->Same H H'->H' D=none->Q (.ref D) s') :
  wpAny (model X.prog X.w) X.A (call (.builtin "sorted") [.ref d] [(Str.ofString "key",.ref q)]) Q E s:=by
 obtain⟨z,hd,l,a0,o,es,ep,ho,hx,N,C,_,hnd⟩:=zSF I.hok e;have G:=zNP a0 ek;have Y:es.size=ps.length:=by rw[size_of_entries C,<- G.1,List.length_map]
 refine call_function_entry_kw kind_sorted plain_sorted entry_sorted (ksk_s1 _ _) ?_;unfold Builtin.«sorted»;refine qQ (m:=checkCount "sorted" 1 1 _) (xj ?_);refine qQ (W.kdu_collect (A:=X.A.in1) (zN8 (es:=es) (ep:=ep) hd) (I.ok.hd x) ⟨o,ho,hx,N⟩ (by rw[Y,sizeLine_eq];omega) λh' U M hk t=>?_);have P:M.toList=(l.map (·.2.1)).map Value.ref:=by
  apply List.ext_getElem?;intro j;rw[Array.getElem?_toList,getElem?_map,getElem?_map];cases q:M[j]? with
  | none =>
   have:l.length<=j:=by
    have k:=Array.getElem?_eq_none_iff.mp q;rw[t.1,size_of_entries C] at k;exact k
   rw[List.getElem?_eq_none this];rfl
  | some v =>
   obtain⟨en,K,e2⟩:=t.2 j v q;rw[entry_at C] at K;obtain⟨y,e3,rfl⟩:=yj.mp K;rw[e3,e2];rfl
 refine qQ (wpAny_newList ?_ (by rw[P,List.length_map,G.1,sizeLine_eq];omega));have w:Inv X pins σ H { s with heap:=h',toks:=U }:=I.kept hk;rw[P];have n:(h'.push { cls:=.type "list",data:=.seq ((l.map (·.2.1)).map Value.ref).toArray }).get? h'.objs.size=some (seqObj "list" ((l.map (·.2.1)).map Value.ref).toArray 0):=get?_push_size _ rfl;refine qQ (wpAny_holding (wpAny_call_entry_kw slot_list_sort ⟨_,n,rfl⟩ entry_list_sort ?body (ksk_l1 _ _)))
 case body =>
  rw[ksk_t1];unfold ksk_tree;have s1:=Heap.SameBut.update (h'.push { cls:=.type "list",data:=.seq ((l.map (·.2.1)).map Value.ref).toArray }) h'.objs.size (Obj.mapSeq λ_=>(#[]:Array Value));obtain⟨K,L⟩:∃ K,((h'.push { cls:=.type "list",data:=.seq ((l.map (·.2.1)).map Value.ref).toArray }).update h'.objs.size (Obj.mapSeq λ_=>(#[]:Array Value))).get? h'.objs.size=some (seqObj "list" #[] K):=⟨_,get?_update_seq n λ_=>#[]⟩;refine qQ (listItems_at n rfl ?_);refine qQ (listUpdate_at n rfl ?_ (by rw[xX,List.length_map,G.1,sizeLine_eq];omega) (zero_le _));refine qQ (seqEpoch_at L rfl ?_);refine qQ (wpAny_newTuple ?_ (by show (List.map _ _).length<=_;rw[List.length_map,G.1,sizeLine_eq];omega));refine qQ (wpAny_newList ?_ (zero_le _));refine wpAny_holding ?_;generalize hL1:(h'.push { cls:=.type "list",data:=.seq ((l.map (·.2.1)).map Value.ref).toArray }).update h'.objs.size (Obj.mapSeq λ_=>(#[]:Array Value))=k at *;have R:k.objs.size=h'.objs.size+1:=by rw[<- hL1,Heap.size_update,size_push']
  have k1:∀ b u,h'.get? b=some u->k.get? b=some u:=λb u q=>by
   rw[s1.2 b (ne_of_lt (lt_size q))];exact get?_push_of_some _ q
  have Z:H h'.objs.size=none:=w.hok.fresh (le_refl _);generalize hT:(l.map (·.2.1)).map Value.ref=us at *;have F:(k.push (seqObj "tuple" us.toArray 0)).objs.size=h'.objs.size+2:=by rw[size_push',R]
  have O:H (k.push (seqObj "tuple" us.toArray 0)).objs.size=none:=w.hok.fresh (by show h'.objs.size<=_;rw[F];omega);have S:∀ p∈X.pn++pins,p.1 < h'.objs.size:=λp B=>lt_size (w.pin p B).1
  have I2:Inv X ((h'.objs.size,seqObj "list" #[] K)::pins) σ (upd H (k.push (seqObj "tuple" us.toArray 0)).objs.size (.lst [])) { s with heap:=(k.push (seqObj "tuple" us.toArray 0)).push (seqObj "list" #[] 0),toks:=U }:=by
   have J:=w.laid (a:=(k.push (seqObj "tuple" us.toArray 0)).objs.size) (h':=(k.push (seqObj "tuple" us.toArray 0)).push (seqObj "list" #[] 0)) (o:=.lst []) (t':=U) (λb u q=>get?_push_of_some _ (get?_push_of_some _ (k1 b u q))) (by show h'.objs.size<=_;rw[F];omega) ⟨zero_le _,[],0,.nil,get?_push_size _ rfl⟩;refine J.pins_of λp B=>?_
   rcases mem_cons.mp B with rfl | B
   .exact ⟨get?_push_of_some _ (get?_push_of_some _ L),by rw[zAI (by rw[F];show h'.objs.size≠_;omega)];exact Z,Nat.ne_of_gt w.lt,w.nofs (le_refl _),λv z=>nomatch z⟩
   .exact J.pin p (xQ _ B)
  subst hT;refine zN3 (H:=H) (g:=g) (bs:=l.map (·.2.1)) (ps:=ps) I2 zAJ (zAU O _) O G l6 w.sz (λp B=>ne_of_lt (S p B)) hf ?_;exact λs' H' I' T n'=>⟨_,rfl,xj ⟨_,rfl,h _ s' H' _ G I' T n'⟩⟩
end
section
variable {prog:Program}{w:World}{A:Around}{E:Value->Shared->Prop}{s:Shared}{K:W.Frag}{x y C D:Addr}{ox oy:Obj}{od oe:Option Obj}
theorem OCls.sub (h:OCls K C)(b:Value):∃ r,W.mroIn K C b=some r:=by
 have h:=h.hm;unfold W.mroIn at h ⊢;obtain⟨a,e,h⟩:=Option.bind_eq_some_iff.mp h;rw[e,qx];split at h
 .cases h
 .rename_i q;rw[if_neg q];exact⟨_,rfl⟩
end
section
variable {X:Cx}
end
section
variable {K:W.Frag}{H H':Hp}{O T:List CA}
theorem zGc {n:Nat}(e:O[n]?=some p)(h:(O++T)[n]?=some q):O[n]?=some q:=by
 rw[zA3 e] at h;exact e.trans h
mutual
theorem DenW.cut:∀ {w:W} {u v:V},DenW K H O w u->DenW K H' (O++T) w v->DenW K H' O w v
 | .dat _,_,_,_,h=>by rw[DenW] at h ⊢;exact h
 | .loc n,_,_,g,h=>by
  rw[DenW] at g h ⊢;obtain⟨_,g,_⟩:=g;obtain⟨a,h,e⟩:=h;exact⟨a,zGc g h,e⟩
 | .ob c ns n,_,_,g,h=>by
  rw[DenW] at g h ⊢;obtain⟨_,g,_⟩:=g;obtain⟨a,h,e⟩:=h;exact⟨a,zGc g h,e⟩
 | .di t n,_,_,g,h=>by
  rw[DenW] at g h ⊢;obtain⟨_,g,_⟩:=g;obtain⟨a,h,e⟩:=h;exact⟨a,zGc g h,e⟩
 | .tup ws,_,_,g,h=>by
  rw[DenW] at g h ⊢;obtain⟨_,_,_,_,g⟩:=g;obtain⟨a,vs,h1,h2,h⟩:=h;exact⟨a,vs,h1,h2,DenWL.cut g h⟩
 | .obj c ns ws,_,_,g,h=>by
  rw[DenW] at g h ⊢;obtain⟨_,_,_,_,g⟩:=g;obtain⟨a,vs,h1,h2,h⟩:=h;exact⟨a,vs,h1,h2,DenWL.cut g h⟩
theorem DenWL.cut:∀ {ws:List W} {us vs:List V},DenWL K H O ws us->DenWL K H' (O++T) ws vs->DenWL K H' O ws vs
 | [],_,_,_,h=>by rw[DenWL] at h ⊢;exact h
 | w::ws,_,_,g,h=>by
  rw[DenWL] at g h ⊢;obtain⟨_,_,_,g1,g2⟩:=g;obtain⟨v,us,e,h1,h2⟩:=h;exact⟨v,us,e,DenW.cut g1 h1,DenWL.cut g2 h2⟩
end
theorem zBI.cut {f:Type}{enc:List Int->Option f}:∀ {ws:List W} {us vs:List (f×V)},zBI K H O enc ws us->zBI K H' (O++T) enc ws vs->zBI K H' O enc ws vs:=by
 intro ws;induction ws with
 | nil=>exact λ_ h=>h
 | cons w ws i=>intro _ _ g h;obtain⟨_,_,_,_,_,_,g1,_,_,_,g5,g6⟩:=g;obtain⟨d,ks,k,u,v,r,h1,h2,h3,h4,h5,h6⟩:=h;subst g1;cases h1;exact⟨_,ks,k,_,v,r,rfl,h2,h3,h4,g5.cut h5,i g6 h6⟩
theorem zBB.cut (g:zBB K H O a ws k)(h:zBB K H' (O++T) b ws k):zBB K H' O b ws k:=by
 rcases k with _|_|(_|_)
 .obtain ⟨_,_,g⟩:=g;obtain⟨vs,h1,h⟩:=h;exact⟨vs,h1,g.cut h⟩
 .obtain ⟨_,_,_,_,_,_,_,g⟩:=g;obtain⟨C,dx,gs,h1,h2,h3,h4,h⟩:=h;exact⟨C,dx,gs,h1,h2,h3,h4,g.cut h⟩
 .obtain ⟨_,_,g⟩:=g;obtain⟨vs,h1,h⟩:=h;exact⟨vs,h1,g.cut h⟩
 .obtain ⟨_,_,g⟩:=g;obtain⟨vs,h1,h⟩:=h;exact⟨vs,h1,g.cut h⟩
theorem MS.cut {σ:St}(g:MS K H O M σ G)(h:MS K H' (O++T) (M++U) O1 G')(e:G'.set i none=G.set i none):MS K H' O M O1 (G.set i none):=by
 refine⟨⟨g.cells.len,?_,λn k q=>?_⟩,by rw[<- e,length_set];exact h.len,λj w q=>?_⟩
 .have:=h.cells.nd;rw[yq] at this;exact(nodup_append.mp this).1
 .obtain ⟨p,l,b⟩:=g.cells.at_ n k q;obtain⟨m,a,d⟩:=h.cells.at_ n k (by rw[getElem?_append_left (zzg q).1];exact q);rw[zA3 l] at a;cases a;exact⟨p,l,b.cut d⟩
 .have f:=q;rw[<- e] at f;rcases zAS q with ⟨_,z,_⟩ | ⟨ne,z⟩
  .cases z
  rcases zAS f with ⟨_,c,_⟩ | ⟨_,c⟩
  .cases c
  obtain⟨u,_,b⟩:=g.get j w z;obtain⟨v,a,d⟩:=h.get j w c;exact⟨v,a,b.cut d⟩
end
abbrev XR:=Str×Mem
abbrev MFX:=List W->Mem->Option XR
def XAM (X:Cx)(pins:List (Addr×Obj))(H0:Hp)(α0:List CA)(r:XR)(e:Value)(s':Shared):Prop :=
 ∃ a C σ H s H' ex T,e=.ref a/\zAp X.K r.1 C/\Inv X pins σ H s/\(∀ b∈ex,FpOk X pins H b)/\Gone X.prog X.w X.stack ex H H' s s' a C/\Kp H0 H'/\zAD X.K H' (α0++T) r.2
def GXM {i:Type}(X:Cx)(m:Sem i)(f:Mst->Option XR):Prop:=∀ (pins:List (Addr×Obj)) (s:Shared) (σ:St) (H H0:Hp) (α0 T:List CA) (G:List (Option W)) (M:Mem) (r:XR),Inv X pins σ H s->MS X.K H (α0++T) M σ G->Kp H0 H->f ⟨G,M⟩=some r ->
 wpAny (model X.prog X.w) X.A m (λ_ _=>False) (XAM X pins H0 α0 r) s
def spMX (K:W.Frag)(F:MFX):Sp:=λvs H _ E=>∃ O M ws r,zAD K H O M/\DenWL K H O ws vs/\F ws M=some r/\∀ C H' T,zAp K r.1 C->Kp H H'->zAD K H' (O++T) r.2->E (.ref C) none H'
section
variable {X:Cx}
noncomputable def zJb (f:Dst->Option Str):Mst->Option XR:=λs=>(f (drS s.M s.G)).map λc=>(c,s.M)
theorem zLy {i:Type}{m:Sem i}{f:Dst->Option Str}(h:GX X m f):GXM X m (zJb f):=λpins s σ H D E T G M r I j k e=>by
 obtain⟨c,u,A⟩:=yj.mp e;cases A;exact wpAny_mono (h pins s σ H H [] (drS M G) c I (zKf j) (by rw[zBm];exact Same.refl _) u) (λ_ _ z=>z) λv B b=>by obtain⟨a,C,l,q,n,v,p,w,y,t,g,x,o⟩:=b;exact⟨a,C,l,q,n,v,p,T,w,y,t,x,o,k.trans (zAq g),j.cells.same g⟩
noncomputable def zEp (f:Mst->Option XR)(g:Mst->Option OutM)(h:Mst->Option XR):Mst->Option XR:=λs=>match f s with
 | some c=>some c
 | none=>(g s).bind λo=>match o with
  | .nx s'=>h s'
  | _=>none
theorem zOu {st:Stmt}(B:X.xe=λ_ _=>False)(x:GXM X (exec st X.env) f)(w:GSM X st g)(v:GXM X (execs rest X.env) h):GXM X (execs (st::rest) X.env) (zEp f g h):=λpins s σ H c i T G M r I n k q=>by
 unfold zEp at q;split at q
 .rename_i D e;cases q;exact wpAny_execs_cons (wpAny_mono (x pins s σ H c i T G M _ I n k e) (λ_ _ z=>z.elim) λ_ _ z=>z)
 .obtain ⟨o,A,p⟩:=bind_some q;cases o with
  | nx t =>
   refine wpAny_execs_cons (wpAny_mono (w c i pins s σ H { nx:=λO1 b=>∃ T',MS X.K b (i++T') t.M O1 t.G/\Kp c b,rt:=λ_ _=>False } I ⟨T,_,_,n,k,A,λT' O1 b l j=>⟨T',l,j⟩⟩) (λfl C z=>?_) λ_ _ z=>by rw[B] at z;exact z.elim);cases fl with
   | next =>
    obtain⟨O1,b,y,T',l,j⟩:=z;exact wpAny_mono (v pins C O1 b c i T' _ _ r y l j p) (λ_ _ z=>z.elim) λ_ _ z=>z
   | ret u=>obtain⟨_,_,_,_,_,z⟩:=z;exact z.elim
   | brk=>obtain⟨_,_,_,z⟩:=z;exact z.elim
   | cont=>obtain⟨_,_,_,z⟩:=z;exact z.elim
  | _=>cases p
noncomputable def xifM (t:Mst->Option MB)(f g:Mst->Option XR):Mst->Option XR:=λs=>(t s).bind λb=>if b.1=true then f ⟨s.G,b.2⟩ else g ⟨s.G,b.2⟩
theorem zRK (y:X.xe=λ_ _=>False)(A:GTM X t c)(B:GXM X (execs l X.env) f)(D:GXM X (execs r X.env) g):GXM X (exec (.If t l r pos) X.env) (xifM c f g):=λpins s σ H v n T G M x I u k q=>by
 obtain⟨b,E,j⟩:=bind_some q;refine wpAny_If (wpAny_mono (A pins s σ H (λb' h=>b'=b.1/\∃ m,Kp H h/\zAD X.K h (n++T++m) b.2) I ⟨_,G,M,b,u,E,λH1 m i o=>⟨rfl,m,i,o⟩⟩) (λb' w e=>?_) λ_ _ z=>by rw[y] at z;exact z.elim);obtain⟨h,p,C,m,i,o⟩:=e;subst C;have d:=u.next i o;rw[qJ] at d;by_cases z:b.1=true
 .rw [if_pos z] at j;rw[z];exact wpAny_mono (B pins w σ h v n _ G _ x p d (k.trans i) j) (λ_ _ z=>z.elim) λ_ _ z=>z
 .rw [if_neg z] at j;rw[Bool.not_eq_true] at z;rw[z];exact wpAny_mono (D pins w σ h v n _ G _ x p d (k.trans i) j) (λ_ _ z=>z.elim) λ_ _ z=>z
theorem zLz (h:GXM X (eval e X.env) f)(c:swapsWith e none pos.line X.env=pure false):GXM X (exec (.Expr e pos) X.env) f:=λpins s σ H d g T G M r I b k q =>
 wpAny_Expr_any (wpAny_mono (h pins s σ H d g T G M r I b k q) (λ_ _ z=>z.elim) λ_ _ z=>z) I.quiet c
noncomputable def EntX (P:Program)(w:World)(K:W.Frag)(mg:Str->Option Value)(base:Heap)(k:Nat)(F:MFX):Option SK->Prop
 | some (.mth c m)=>∃ C f fd ps,zAp K c C/\Cls K C/\Meth K C m f/\FnOk P w K mg base (CXd P w) k f fd ps (spMX K F)/\zBJ K fd ps []
 | _=>False
abbrev Xm:=List (Str×MFX)
def XmOk (P:Program)(w:World)(K:W.Frag)(mg:Str->Option Value)(base:Heap)(k:Nat)(L:Xm):Prop:=∀ x F,(x,F)∈L->EntX P w K mg base k F (spec.lookup x)
noncomputable def zHt (L:Xm)(m:Str)(f:Mst->Option MR)(g:Mst->Option MA):Mst->Option XR:=λs=>(f s).bind λx=>(clsW m x.1).bind λc=>(L.find? λe=>decide (spec.lookup e.1=some (.mth c m))).bind λe=>(g ⟨s.G,x.2⟩).bind λws=>e.2 (x.1::ws.1) ws.2
theorem zOv {k:Nat}{L:Xm}{m:Str}{o:Expr}{l pos:Pos}{e:Expr}{es:List Expr}{f:Mst->Option MR}{g:Mst->Option MA}(hn:X.xe=λ_ _=>False)(he:GM X o f)(ha:GAM X (e::es) g)(d:XmOk X.prog X.w X.K X.mg X.base k L)(hr:Room k X.A)
  (a0:starEach (e::es) X.env=(false,eval e X.env)::starEach es X.env) (a1:(backTo pos (starEach es X.env)).any (·.1)=false) (w:attributeBase o m X.env (eval o X.env)=eval o X.env) (N:methodCallForm ((e::es).length+([]:List Keyword).length) (backTo pos (starEach (e::es) X.env)) (backToKw pos (keywordEach [] X.env))=true) (A:(l.endLine==pos.line)=true):GXM X (eval (.Call (.Attribute o m l) (e::es) [] pos) X.env) (zHt L m f g):=by
 intro j s σ H H0 B T G M r I ms kp q;obtain⟨x,ex,q⟩:=bind_some q;obtain⟨c,hc,q⟩:=bind_some q;obtain⟨i,ee,q⟩:=bind_some q;have hk:spec.lookup i.1=some (.mth c m):=of_decide_eq_true (List.find?_some (p:=λe:Str×MFX=>decide (spec.lookup e.1=some (.mth c m))) ee)
 .obtain ⟨O,ew,q⟩:=bind_some q;have D:=d i.1 i.2 (List.mem_of_find?_eq_some ee);rw[hk] at D;obtain⟨C,fa,fd,ps,d1,d2,d3,d4,d5⟩:=D;have no:∀ {v:Value} {s':Shared} {p:Prop},X.xe v s'->p:=λz=>by rw[hn] at z;exact z.elim
  refine W.methodCall_KW (wpAny_mono (he j s σ H (λv t=>∃ h,Kp H t/\zAD X.K t (B++T++h) x.2/\DenW X.K t (B++T++h) x.1 v) I ⟨_,G,M,x,ms,ex,λv t h Q U S=>⟨h,Q,U,S⟩⟩) (λu s1 y=>?_) λ_ _ z=>no z) (zDx w N A);obtain⟨v,t,I1,rx,h,Q,U,S⟩:=y;obtain⟨a,C',dx,gs,rfl,h1,h2,h3⟩:=zKo U hc S;obtain rfl:=zEG d1 h2;obtain rfl:u=Value.ref a:=rx;refine zDI I1 h1 d2 d3 h3 ?_;refine W.callWith_K (first:=[.ref a]) (h₀:=X.base) I.ok.mod.kin d3.kp (wpAny_mono (ha pos j s1 σ t (λvs b=>∃ n,Kp t b/\zAD X.K b (B++T++h++n) O.2/\DenWL X.K b (B++T++h++n) O.1 vs) I1 ⟨_,G,x.2,O,ms.next Q U,ew,λvs b n P Y Z=>⟨n,P,Y,Z⟩⟩) (λus s2 ⟨vs,b,R,rv,n,P,Y,Z⟩=>⟨R.kIn,?_⟩) λ_ _ z=>no z) a0 a1;have sp:spMX X.K i.2 (.ref a::vs++[]) b (λ_ _=>False) (λcls _ K=>∃ C J,cls=.ref C/\zAp X.K r.1 C/\Kp b K/\zAD X.K K (B++T++h++n++J) r.2):=⟨_,O.2,x.1::O.1,r,Y,by rw[append_nil];exact .cons (S.mono P n) Z,q,λC K J h1 h2 h3=>⟨C,J,rfl,h1,h2,h3⟩⟩;have r1:Vals (V.ref a::vs) (Value.ref a::us):=.cons rfl rv;have r2:Vals (V.ref a::vs++[]) (Value.ref a::us++[]):=r1.append .nil;have hl:(Value.ref a::us++[]).length=ps.length:=by rw[<- r2.length];exact d4.len _ _ _ _ sp
  refine wpAny_call (codeAny_mono (d4.run X.A X.stack s2 b ⟨.ref a::us,[]⟩ (.ref a::us++[]) (.ref a::vs++[]) _ _ hr R.env0 (d5 s2 (.ref a::us) R.kIn hl) r2 sp) λr' s' F=>?_);cases r' with
  | error e =>
   obtain⟨a',C',K,rfl,⟨b4,J,ec,cn,k3,c3⟩,gn⟩:=F;cases ec;exact⟨a',C',σ,b,s2,K,[],T++(h++(n++J)),rfl,cn,R,λb z=>(by cases z),gn,kp.trans (Q.trans (P.trans k3)),by rw[<- qJ,<- qJ,<- qJ];exact c3⟩
  | ok fl =>
   cases fl with
   | ret u=>obtain⟨_,_,_,_,_,_,_,z⟩:=F;exact z.elim
   | next=>exact False.elim F
   | brk=>exact False.elim F
   | cont=>exact False.elim F
end
noncomputable def zBx (np nN:Nat)(g:Mst->Option XR):MFX:=λws M=>if ws.length=np/\np<=nN then g ⟨ws.map some++List.replicate (nN - np) none,M⟩ else none
theorem zMJ {K:W.Frag}{st:Stmt}(F:Fun K x qual st f fd)(S:zAV N ps (zAA st))
  (l:∀ (cdv:Value) (A:Around) (outer:List Env) (s:Shared) (H:Hp) (E:XK),Room k (A.deeper (envOfC qual (zAA st) s.heap.objs.size f cdv))->GXM (cxOf (CXd P w) P w K mg base N qual (zAA st) f cdv A outer s H E).nox (execs (zAF st) (cxOf (CXd P w) P w K mg base N qual (zAA st) f cdv A outer s H E).nox.env) g) :
  FnOk P w K mg base (CXd P w) (k+1) f fd ps (spMX K (zBx ps.length N.length g)):=by
 obtain⟨oc,od,kV,U,pm,an,cdv,ct,Z,rfl,lk,t⟩:=F.ex;have m:∀ {c:List W} {M:Mem} {r:XR},zBx ps.length N.length g c M=some r->(c.length=ps.length/\ps.length<=N.length)/\g ⟨c.map some++List.replicate (N.length - ps.length) none,M⟩=some r:=λ{c M r} e=>by
  unfold zBx at e;by_cases q:c.length=ps.length/\ps.length<=N.length
  .rw [if_pos q] at e;exact⟨q,e⟩
  .rw [if_neg q] at e;cases e
 refine zML lk t S (λvs H Q E j=>by obtain⟨O,M,c,r,B,p,o,_⟩:=j;rw[<- p.length];exact(m o).1.1) λA outer s H vs Q E hr i=>?_
 obtain⟨O,M,c,r,B,p,o,hE⟩:=i;obtain⟨q,e⟩:=m o;refine⟨λ_ v u=>v=zB8 N vs/\u=H,λpins s1 σ n D I h=>?_,rfl,rfl⟩;obtain⟨e1,R⟩:=h;subst e1 R;rw[<- q.1] at e;refine wpAny_mono (l cdv A outer s n E hr pins s1 _ n n O [] _ _ r (I.wish _) (by rw[append_nil];exact zDi B p (by rw[q.1];exact q.2)) (Kp.refl _) e) (λ_ _ z=>z.elim) λv s2 d=>?_
 obtain⟨a,C,v,u,s',y,ex,T,L,V,Y,fx,J,kp,b⟩:=d;subst L;exact zIH (X:=(cxOf (CXd P w) P w K mg base N qual (zAA st) f cdv A outer s n E).nox) rfl rfl rfl Y fx J λs3 g3=>⟨a,C,y,rfl,hE C y T V kp b,g3⟩
def _root_.L2.Cx.mkd (X:Cx)(e:Value):Cx:={ X with A:=X.A.mark (some e),calm:=false }
theorem _root_.L2.Inv.mkd {σ:St}(I:Inv X pins σ H s)(e:Value):Inv (X.mkd e) pins σ H s:=by
 have o:=I.ok;exact⟨⟨o.mod,o.kind,o.glob,o.blt,o.above,o.inj,o.has,o.cab,(λz=>nomatch z),o.frames,o.stk,o.exf,o.bs,o.bsz,o.noex,o.exfs,o.funs,o.frf,o.pyl,o.tabs⟩,I.os,I.bare,I.base,I.loc,I.cell,I.free,I.freeC,I.pin,I.hok,I.len⟩
theorem _root_.L2.Inv.unmk {σ:St}(o:X.Ok)(I:Inv (X.mkd e) pins σ H s):Inv X pins σ H s:=⟨o,I.os,I.bare,I.base,I.loc,I.cell,I.free,I.freeC,I.pin,I.hok,I.len⟩
section
variable {X:Cx}
noncomputable def tryM (f:Mst->Option OutM)(g:Mst->Option XR)(sub:Str->Option Bool)(i:Nat)(hb:Mst->Option OutM):Mst->Option OutM:=λs=>match g s with
 | none=>f s
 | some r=>match sub r.1 with
  | some true=>(match hb ⟨(List.replicate s.G.length none).set i (some (.dat (.exc r.1))),r.2⟩ with
   | some (.rt v)=>some (.rt v)
   | _=>none)
  | _=>none
theorem zO6 (A:X.xe=λ_ _=>False)(a5:X.stack=X.env::X.outer)(Q:X.env.frame=some X.env.locals)
  (hN:X.N.Nodup) (hi:X.N[i]?=some n) (hl:X.env.scope.names.lookup n=some .local) (a2:X.fn n=true\/X.env.scope.names.lookup n=some .local)
  (hg:Gl X c0) (hm:X.mg c0=some u0) (S:(c0==("__debug__":Str))=false) (y:∀ c C,sub c=some true->zAp X.K c C->W.exmOne X.K (.ref C) u0=some true)
  (hf:GSsM X body f) (hx:GXM X (execs body X.env) g) (hh:∀ ev,GSsM (X.mkd ev) (h0::hd) hb) :
  GSM X (.Try body [.ExceptHandler (some (.Name c0 np)) (some n) (h0::hd) hpos] [] [] pos) (tryM f g sub i hb):=λH0 K d s σ H D I p=>by
 obtain⟨T,F,o,V,k,e,po⟩:=p;refine wpAny_Try_except ?_;unfold tryM at e;split at e
 .rename_i eo;refine wpAny_mono (hf H0 K d s σ H D I ⟨T,F,o,V,k,e,po⟩) (λfl s1 z=>?_) λ_ _ z=>by rw[A] at z;exact z.elim
  cases fl with
  | next=>exact wpAny_execs_nil z
  | ret u=>exact z
  | brk=>exact z
  | cont=>exact z
 .rename_i r J;split at e
  .rename_i hs;split at e
   .rename_i rv e2;cases e;refine wpAny_mono (hx d s σ H H0 K T F.G F.M r I V k J) (λ_ _ z=>z.elim) λv s' t=>?_
    obtain⟨a,C,L,H1,s1,H',ex,T',ev,cn,h,G,R,k',m⟩:=t;subst ev;refine zJd a5 Q h R λh5 B a0 fl un U hB hC=>?_
    have bB:X.base.StaysIn h5:=λb ob e=>by
     have J:=h.bs b ob e;exact un.keep b ob J.1 J.2 (λz=>by have:=(h.stack.mem z).1;rw[e] at this;cases this) (λz=>by
      rcases(G b z).2.2.2.1 with q | q
      .exact h.ok.noex b ob e q
      .exact absurd (xJ (lt_size e) (le_trans h.ok.bsz q)) (lt_irrefl _))
    have K5:X.K.In h5:=h.ok.mod.kin.keeps bB;obtain⟨ob,Z,x⟩:=fl.there;refine wpAny_handleBy_cons (codeAny_handlers_test (Calls.Name_function_global h.ok.kind hg (Calls.loadGlobal_global (by rw[h.ok.glob];exact h.mod.glob.keeps bB) hm ?_) S)) (by intro q;cases q);refine W.exm_one K5 (cls:=.ref C) (x▸(W.Looks.ld Z).andThen .now) (y r.1 C hs cn) _ _ _ _ (λ_ _ e=>e) ?_;refine codeAny_handlers_suite_as ?_;refine lands_againW fl λh6 l N=>?_
    have a3:=zId un fl.1 l.1 hC (λb z=>(fl.2.2.1.mem z).2) λb o _=>N b o
    obtain⟨Y,hn,oc,od,he,a4,E⟩:=zJt h l a3 (zGs U fl.1 l.1 hB) hB hC;have I6:Inv X d L _ { s' with heap:=h6 }:=h.call' R.os a4 E R.bare λb z=>⟨(G b z).2.2.2.1,(G b z).2.1,(G b z).2.2.2.2.1,(G b z).2.2.2.2.2⟩
    refine zDf I6 hN hi (.inl hl) (v:=.ref a) rfl (λs7 P=>?_) a2;have sm:=zAU hn (.frz Y (.ext λ_=>True));have il:i < L.length:=by rw[h.len];exact(zzg hi).1
    have m7:MS X.K (upd H' a (.frz Y (.ext λ_=>True))) (K++T') r.2 (L.set i (some (.ref a))) ((List.replicate F.G.length none).set i (some (.dat (.exc r.1)))):=by
     refine⟨m.same sm,by rw[length_set,length_set,length_replicate,h.len,<- V.len,I.len],λj w q=>?_⟩;rcases zAS q with ⟨rfl,z,_⟩ | ⟨_,z⟩
     .cases z;refine⟨_,zBL il,?_⟩;rw[DenW,Den];exact⟨a,Y,_,C,rfl,zD7 zAJ,oc,od,cn⟩
     .rw [getElem?_replicate] at z;split at z<;>cases z
    refine wpAny_mono (hh (.ref a) H0 K d s7 _ _ { nx:=λ_ _=>False,rt:=D.rt } (P.mkd _) ⟨T',⟨(List.replicate F.G.length none).set i (some (.dat (.exc r.1))),r.2⟩,_,m7,k'.trans (zAq sm),e2,po⟩) (λfl s8 z=>?_) λ_ _ z=>by rw[show (X.mkd (.ref a)).xe=X.xe from rfl,A] at z;exact z.elim
    cases fl with
    | next=>obtain⟨_,_,_,z⟩:=z;exact z.elim
    | brk=>obtain⟨_,_,_,z⟩:=z;exact z.elim
    | cont=>obtain⟨_,_,_,z⟩:=z;exact z.elim
    | ret u =>
     obtain⟨v8,U9,H8,I8,r8,z8⟩:=z;obtain⟨m8,M,_⟩:=I8.loc;refine wpAny_nameGoes hl M (by rw[P.ok.kind];rfl) λh9 m9 a1 O=>?_
     exact⟨v8,_,_,zLt (I8.unmk P.ok) a1 O,r8,z8⟩
   .cases e
  .cases e
end
end DL
end
section
namespace DL
open PySem Spec PyProof.Rows L2
set_option genSizeOf false in
set_option genInjectivity false in
inductive ME where
 | pur (e:E) | var (i:Nat) | call (n:Nat) (f:Str) (es:ME) | lst (es:ME) | tup (es:ME) | ix (a b:ME) | cmp (op:CmpOp) (a b:ME) 
 | comp (n:Nat) (ms:List Nat) (x:Str) (src el:ME) | rng (a:ME) | rng2 (a b:E) | it (a:ME) | not (a:ME) | orl (es:ME) | nil | cons (e es:ME) | fld (a:ME) (f:Str) | mth (ix:List (Str×Nat)) (m:Str) (a es:ME) | mk (n:Nat) (c kw:Str) (d:Bool) (es:ME) | dnew (t:Bool) | dix (a b:ME) | dpop (a b:ME) | idx (a b:ME) | lcp (a:ME) | len (a:ME) | nid (a b:ME) | or2 (a b:ME)
set_option genSizeOf false in
set_option genInjectivity false in
inductive MT where
 | nil | cons (a b:MT) | set (i:Nat) (e:ME) | setC (i:Nat) (e:ME) | app (t e:ME) | put (t k e:ME) | ife (c:ME) (a b:MT) | for1 (i:Nat) (src:ME) (b:MT) 
 | ret (e:ME) | retN | drop (e:ME) | never | rem (t e:ME) | ins (t k e:ME) | fput (a:ME) (f:Str) (e:ME) | faug (a:ME) (f:Str) (e:ME) | dput (t k e:ME) | rse (c:Str) (m:E)
noncomputable def or2M (f g:Mst->Option MR):Mst->Option MR:=λs=>(f s).bind λx=>match x.1 with
 | .dat (.bl b)=>if b=true then some x else g ⟨s.G,x.2⟩
 | _=>none
noncomputable def fnM (B:Dm)(n:Nat)(x:Str)(g:Mst->Option MA):Mst->Option MR:=λs=>match B[n]? with
 | some (y,F)=>if y=x then zKw F g s else none
 | none=>none
mutual
def evM (J:Gm)(B:Dm):ME->Mst->Option MR
 | .pur e=>zDz (evE J e)
 | .var i=>varM i
 | .call n f es=>fnM B n f (evMs J B es)
 | .lst es=>lstM (evMs J B es)
 | .tup es=>tupM (evMs J B es)
 | .ix a b=>twoM (evM J B a) (evM J B b) ixW
 | .cmp op a b=>twoM (evM J B a) (evM J B b) (opM (cmpD op))
 | .fld a f=>fldM J.ob f (evM J B a)
 | .mth ix m a es=>mthM B ix m (evM J B a) (evMs J B es)
 | .mk n c kw d es=>mkM B n c kw d (evMs J B es)
 | .dnew t=>zSH t
 | .dix a b=>dixM (evM J B a) (evM J B b)
 | .dpop a b=>zMf (evM J B a) (evM J B b)
 | .idx a b=>idxM (evM J B a) (evM J B b)
 | .lcp a=>lcpM (evM J B a)
 | .len a=>lenM (evM J B a)
 | .or2 a b=>or2M (evM J B a) (evM J B b)
 | .comp n ms _ src el=>zG2 ms 1 (evSrc J B src) (tgM n) (evM J B el)
 | _=>λ_=>none
def evMs (J:Gm)(B:Dm):ME->Mst->Option MA
 | .nil=>nilM
 | .cons e es=>zMk (evM J B e) (evMs J B es)
 | _=>λ_=>none
def evSrc (J:Gm)(B:Dm):ME->Mst->Option (Src×Mem)
 | .rng a=>zLM (evM J B a)
 | .rng2 a b=>zSh (evE J a) (evE J b)
 | .it a=>srcM (evM J B a)
 | _=>λ_=>none
end
mutual
noncomputable def evT (J:Gm)(B:Dm):ME->Mst->Option MB
 | .pur e=>zFB (asB (evE J e))
 | .cmp op a b=>asBM (evM J B (.cmp op a b))
 | .call n f es=>asBM (evM J B (.call n f es))
 | .nid a b=>asBM (twoM (evM J B a) (evM J B b) nidW)
 | .not a=>notB (evT J B a)
 | .orl es=>evOrT J B es
 | _=>λ_=>none
noncomputable def zGC (J:Gm)(B:Dm):ME->Mst->Option MB
 | .cons e es=>(match es with
  | .nil=>evT J B e
  | es=>andB (evT J B e) (zGC J B es))
 | _=>λ_=>none
noncomputable def evOrT (J:Gm)(B:Dm):ME->Mst->Option MB
 | .cons e es=>(match es with
  | .nil=>evT J B e
  | es=>orB (evT J B e) (evOrT J B es))
 | _=>λ_=>none
end
mutual
def evS' (J:Gm)(B:Dm):MT->Mst->Option OutM
 | .set i e=>setM i (evM J B e)
 | .setC i e=>setM i (evM J B e)
 | .app t e=>appM (evM J B t) (evM J B e)
 | .put t k e=>putM (evM J B t) (evM J B k) (evM J B e)
 | .ife c a b=>ifM (evT J B c) (evSs' J B a) (evSs' J B b)
 | .for1 i src b=>λs=>(evSrc J B src s).bind λr=>zIP (tgM i) (evSs' J B b) r.1 0 ⟨s.G,r.2⟩
 | .ret e=>retM (evM J B e)
 | .retN=>λs=>some (.rt (.dat .non,s.M))
 | .drop e=>zMc (evM J B e)
 | .rem t e=>lmM (evM J B t) (evM J B e) remW
 | .ins t k e=>insM (evM J B t) (evM J B k) (evM J B e)
 | .fput a f e=>zMK J.ob (evM J B a) f (evM J B e)
 | .faug a f e=>zR1 J.ob (evM J B a) f (evM J B e)
 | .dput t k e=>zMe (evM J B t) (evM J B k) (evM J B e)
 | .nil=>λ_=>none
 | .cons _ _=>λ_=>none
 | .never=>λ_=>none
 | .rse _ _=>λ_=>none
def evSs' (J:Gm)(B:Dm):MT->Mst->Option OutM
 | .nil=>λs=>some (.nx s)
 | .cons a b=>seqM (evS' J B a) (evSs' J B b)
 | _=>λ_=>none
end
noncomputable def zGP:Expr->Bool
 | .Name _ _=>true
 | .Subscript _ _ _=>true
 | .Attribute _ _ _=>true
 | .Call _ (_::_) _ _=>true
 | _=>false
mutual
noncomputable def cM:ME->Scope->List Str->List Str->Expr->Bool
 | .pur e,sc,N,bs=>λx=>cE e sc N bs x
 | .var i,sc,N,bs=>λx=>cE (.var i) sc N bs x
 | .call _ f es,sc,N,bs=>λe=>onC e λy z2=>zJK z2 λx xs=>(decide (f=y)&&glB sc f&&okN f&&(spec.lookup f).isNone&&cMs es sc N bs (x::xs))
 | .lst es,sc,N,bs=>λe=>zJG e λl _=>cMs es sc N bs l
 | .tup es,sc,N,bs=>λe=>zGf e λl _ _=>cMs es sc N bs l
 | .or2 a b,sc,N,bs=>λe=>zDg e λz1 l _=>onEq z1 .Or<|on2 l λx y=>cM a sc N bs x&&cM b sc N bs y
 | .ix a b,sc,N,bs=>λe=>zBH e λl r _=>zCv r&&cM a sc N bs l&&cM b sc N bs r
 | .cmp op a b,sc,N,bs=>λe=>zCY e λl z1 z2 _=>on1 z1 λop'=>on1 z2 λr=>cmB op op'&&!(behindInMarks op r)&&cM a sc N bs l&&cM b sc N bs r
 | .fld a f,sc,N,bs=>λe=>zAa e λl m _=>decide (m=f)&&zGP l&&cM a sc N bs l
 | .mth _ m a es,sc,N,bs=>λe=>zBr e λz1 z2 z3 cpos=>zAa z1 λl m' apos=>on0 z3<|(decide (m'=m)&&zGP l&&(apos.endLine==cpos.line)&&decide (z2.length < 30)&&cM a sc N bs l&&cMs es sc N bs z2)
 | .mk _ c kw d es,sc,N,bs=>λe=>onC e λy z2=>zJK z2 λx xs=>(decide (c=y)&&glB sc c&&okN c&&decide (d=true->kw ≠ "")&&cMs es sc N bs (x::xs))
 | .dnew _,sc,N,bs=>λe=>zNI e λz1 z2 _=>on0 z1<|on0 z2<|true
 | .dix a b,sc,N,bs=>λe=>zBH e λl r _=>zCv r&&cM a sc N bs l&&cM b sc N bs r
 | .dpop a b,sc,N,bs=>λe=>zBr e λz1 z2 z3 cpos=>zAa z1 λl m apos=>on1 z2 λv=>on0 z3<|(decide (m = "pop")&&zGP l&&(apos.endLine==cpos.line)&&zAX v&&cM a sc N bs l&&cM b sc N bs v)
 | .idx a b,sc,N,bs=>λe=>zBr e λz1 z2 z3 cpos=>zAa z1 λl m apos=>on1 z2 λv=>on0 z3<|(decide (m = "index")&&zGP l&&(apos.endLine==cpos.line)&&zAX v&&cM a sc N bs l&&cM b sc N bs v)
 | .len a,sc,N,bs=>λe=>onC e λy z2=>on1 z2 λl=>(decide (y = "len")&&bltB sc bs "len"&&zAX l&&cM a sc N bs l)
 | .lcp a,sc,N,bs=>λe=>onC e λy z2=>on1 z2 λl=>(decide (y = "list")&&bltB sc bs "list"&&zAX l&&cM a sc N bs l)
 | .comp n ms x src el,sc,N,bs=>λe=>zDC e λv z1 scope _=>on1 z1 λz2=>zOY z2 λz3 t z4 a=>zA1 z3 λy _=>on0 z4<|(decide (x=y)&&decide (a=0)&&decide (n=N.length)&&cscB sc scope&&zLj scope N ms&&decide ((mask (noN N) ms N++[x]).Nodup)&&locB (relS sc scope) x&&ownB scope x&&cSrc src sc N bs t&&cM el (relS sc scope) (mask (noN N) ms N++[x]) bs v)
 | _,_,_,_=>λ_=>false
noncomputable def cMs:ME->Scope->List Str->List Str->List Expr->Bool
 | .nil,sc,N,bs=>λl=>l.isEmpty
 | .cons e es,sc,N,bs=>λl=>match l with
  | x::xs=>zAX x&&cM e sc N bs x&&cMs es sc N bs xs
  | []=>false
 | _,_,_,_=>λ_=>false
noncomputable def cSrc:ME->Scope->List Str->List Str->Expr->Bool
 | .rng a,sc,N,bs=>λx=>onC x λy z2=>on1 z2 λl=>(decide (y = "range")&&bltB sc bs "range"&&zAX l&&cM a sc N bs l)
 | .rng2 a b,sc,N,bs=>λ_=>false
 | .it a,sc,N,bs=>λx=>zJP x&&cM a sc N bs x
 | _,_,_,_=>λ_=>false
end
mutual
noncomputable def cT:ME->Scope->List Str->List Str->Expr->Bool
 | .pur e,sc,N,bs=>λx=>cE e sc N bs x
 | .cmp op a b,sc,N,bs=>λx=>cM (.cmp op a b) sc N bs x
 | .call n f es,sc,N,bs=>λx=>cM (.call n f es) sc N bs x
 | .nid a b,sc,N,bs=>λe=>zCY e λl z1 z2 _=>on1 z1 λop'=>on1 z2 λr=>cmB .NotIn op'&&!(behindInMarks .NotIn r)&&cM a sc N bs l&&cM b sc N bs r
 | .not a,sc,N,bs=>λe=>zDs e λz1 l _=>onEq z1 .Not<|(cT a sc N bs l)
 | .orl es,sc,N,bs=>λe=>zDg e λz1 l _=>onEq z1 .Or<|(cTs es sc N bs l)
 | _,_,_,_=>λ_=>false
noncomputable def cTs:ME->Scope->List Str->List Str->List Expr->Bool
 | .cons e es,sc,N,bs=>λl=>match es with
  | .nil=>(match l with
   | [x]=>cT e sc N bs x
   | _=>false)
  | es=>(match l with
   | x::y::xs=>cT e sc N bs x&&cTs es sc N bs (y::xs)
   | _=>false)
 | _,_,_,_=>λ_=>false
end
noncomputable def zOn:ME->Bool
 | .comp _ _ _ _ _=>true
 | _=>false
mutual
noncomputable def cS' (sc:Scope)(N bs:List Str):MT->Stmt->Bool
 | .set i e=>λs=>zBk s λz1 v _=>on1 z1 λz2=>zA1 z2 λy _=>varB sc N i y&&zDw v&&cM e sc N bs v
 | .setC i e=>λs=>zBk s λz1 v _=>on1 z1 λz2=>zA1 z2 λy _=>zOn e&&varB sc N i y&&cM e sc N bs v
 | .app t e=>λs=>zCs s λz1 _=>zBr z1 λz2 z3 z4 cpos=>zAa z2 λb m apos=>on1 z3 λv=>on0 z4<|(decide (m = "append")&&zGP b&&(apos.endLine==cpos.line)&&zAX v&&cM t sc N bs b&&cM e sc N bs v)
 | .put t k e=>λs=>zBk s λz1 v _=>on1 z1 λz2=>zBH z2 λb kk _=>zDw v&&zCv kk&&cM t sc N bs b&&cM k sc N bs kk&&cM e sc N bs v
 | .ife c a b=>λs=>onIf s λt l r _=>cT c sc N bs t&&cSs' sc N bs a l&&cSs' sc N bs b r
 | .for1 i it b=>λs=>zOZ s λz1 t l z2 _=>zA1 z1 λy _=>on0 z2<|(varB sc N i y&&cSrc it sc N bs t&&cSs' sc N bs b l)
 | .ret e=>λs=>zC2 s λz1 _=>zFp z1 λv=>cM e sc N bs v
 | .retN=>λs=>zC2 s λz1 _=>zHL z1<|(true)
 | .drop e=>λs=>zCs s λv _=>zDw v&&cM e sc N bs v
 | .rem t e=>λs=>zCs s λz1 _=>zBr z1 λz2 z3 z4 cpos=>zAa z2 λb m apos=>on1 z3 λv=>on0 z4<|(decide (m = "remove")&&zGP b&&(apos.endLine==cpos.line)&&zAX v&&cM t sc N bs b&&cM e sc N bs v)
 | .ins t k e=>λs=>zCs s λz1 _=>zBr z1 λz2 z3 z4 cpos=>zAa z2 λb m apos=>on2 z3 λkk v=>on0 z4<|(decide (m = "insert")&&zGP b&&(apos.endLine==cpos.line)&&zAX kk&&zAX v&&cM t sc N bs b&&cM k sc N bs kk&&cM e sc N bs v)
 | .fput a f e=>λs=>zBk s λz1 v _=>on1 z1 λz2=>zAa z2 λo f' _=>decide (f'=f)&&cM a sc N bs o&&cM e sc N bs v
 | .faug a f e=>λs=>zCu s λz1 op v _=>zAa z1 λo f' _=>decide (f'=f)&&opB .Add op&&cM a sc N bs o&&cM e sc N bs v
 | .dput t k e=>λs=>zBk s λz1 v _=>on1 z1 λz2=>zBH z2 λb kk _=>cM t sc N bs b&&cM k sc N bs kk&&cM e sc N bs v
 | .never=>λ_=>true
 | .rse c m=>λs=>onRaise s λz1 z2 _=>zFp z1 λz3=>zBr z3 λz4 z5 z6 _=>zA1 z4 λy _=>on1 z5 λl=>on0 z6<|zHL z2<|(decide (c=y)&&glB sc c&&okN c&&zAX l&&cE m sc N bs l)
 | .nil=>λ_=>false
 | .cons _ _=>λ_=>false
noncomputable def cSs' (sc:Scope)(N bs:List Str):MT->List Stmt->Bool
 | .nil=>λl=>l.isEmpty
 | .cons a b=>λl=>match l with
  | s::r=>cS' sc N bs a s&&cSs' sc N bs b r
  | []=>false
 | _=>λ_=>false
end
end DL
end
section
namespace DL
open PySem Spec PyProof.Rows L2
structure XOkM (X:Cx)(k:Nat)(J:Gm)(B:Dm)(bs:List Str):Prop where
 x:XOk X k J bs
 d:DmOk X.prog X.w X.K X.mg X.base k B
theorem XOkM.comp (o:XOkM X k J B bs)(a:N.Nodup):XOkM (zAb X N scope s H fp) k J B bs:=⟨o.x.comp a,o.d⟩
section
variable {X:Cx}{k:Nat}{J:Gm}{B:Dm}{bs:List Str}
theorem zJ2 (h:∀ s,f s=none):GM X e f:=λpins s σ H Q I a=>by
 obtain⟨O,G,M,r,b,q,c⟩:=a;rw[h] at q;cases q
theorem zRa (n:GM X a f)(q:GM X b g):GM X (.BoolOp .Or [a,b] pos) (or2M f g):=(zQb n (zNA q)).imp fun σ H Q zz136=>by
 obtain⟨O,G,M,r,j,e,c⟩:=zz136;obtain⟨x,m,e⟩:=bind_some e;split at e
 .rename_i t u;refine⟨O,G,M,x,j,m,λv s T d h i=>?_⟩;have k:=i;rw[u,DenW,Den] at k;subst k;refine⟨t,rfl,?_⟩;cases t with
  | true =>
   rw[if_pos rfl] at e ⊢;cases e;exact c _ s T d h i
  | false =>
   rw[if_neg qX] at e ⊢;exact⟨O++T,G,x.2,r,j.next d h,e,λv l o y w p=>c v l (T++o) (d.trans y) (by rw[<- qJ];exact w) (by rw[<- qJ];exact p)⟩
 .cases e
theorem zPI (j:X.A.units+64 < cLine)(e:behindInMarks op b=false)(c:GM X a f)(h:GM X b g):GM X (.Compare a [op] [b] pos) (twoM f g (opM (cmpD op)))/\GTM X (.Compare a [op] [b] pos) (asBM (twoM f g (opM (cmpD op)))):=by
 obtain⟨r,d,i⟩:=zHk (X:=X) (op:=op) j;exact⟨((zI8 d c h e).imp λ_ _ _ q=>zE5 (zND i) q),((zGZ d c h e).imp λ_ _ _ q=>zE5 (zND i) (zGu q))⟩
theorem zS4 (o:XOkM X k J B bs)(d:Gl X f)(t:(f==("__debug__":Str))=false)(m:GAM X (x::xs) g)(b:∀ e∈x::xs,zAX e=true)(c:spec.lookup f=none):GM X (.Call (.Name f p) (x::xs) [] pos) (fnM B n f g):=by
 cases q:B[n]? with
 | none=>exact zJ2 λs=>by unfold fnM;rw[q]
 | some u =>
  obtain⟨y,F⟩:=u;by_cases e:y=f
  .subst e;have h:fnM B n y g=zKw F g:=by
    funext s;unfold fnM
    simp_all
   rw[h];have D:=o.d y F (mem_of_getElem? q);rw[c] at D;obtain⟨a,w,v,l,r,i,j⟩:=D;exact zPJ l o.x.room d r i j m t (zAB (b x xy)) (zBK λe z=>b e (qY _ z))
  .exact zJ2 λs=>by
    unfold fnM;rw[q];exact if_neg e
theorem zBo {c}(h:zGP b=true):attributeBase b m env c=c:=by
 cases b with
 | Call f a _ _=>cases a<;>first | (cases f<;>rfl) | cases h
 | _=>first | rfl | cases h
theorem zIA (h:zCv e=true):NoSl e:=by
 cases e<;>first | intro o i;rfl | cases h
theorem zC7 :∀ {es:List Expr},cMs a sc N bs es=true->∀ e∈es,zAX e=true:=by
 induction a with
 | nil =>
  intro es h;cases es with
  | nil=>intro e z;exact absurd z (by simp)
  | cons x d=>exact nomatch show false=true from h
 | cons a b _ c =>
  intro es h;cases es with
  | nil=>intro e z;exact absurd z (by simp)
  | cons x d =>
   simp only[cMs,yx] at h;intro e z;rcases mem_cons.mp z with rfl | z
   .simp_all
   .exact c h.2 e z
 | _=>intro es h;exact zzf h
theorem zNX (h:∀ e∈es,zAX e=true)(a:es.length < 30)(pos:Pos):methodCallForm (es.length+([]:List Keyword).length) (backTo pos (starEach es X.env)) (backToKw pos (keywordEach [] X.env))=true:=by
 unfold methodCallForm;have q:=zBK (X:=X) h pos;rw[yx,yx];refine⟨⟨?_,rfl⟩,decide_eq_true (by assumption)⟩
 simp_all
structure zTI (X:Cx)(J:Gm)(B:Dm)(bs:List Str)(a:ME):Prop where
 e:∀ e,cM a X.env.scope X.N bs e=true->GM X e (evM J B a):=by exact nh
 es:∀ es,cMs a X.env.scope X.N bs es=true->GAM X es (evMs J B a):=by exact nh
 s:∀ it,cSrc a X.env.scope X.N bs it=true->(∀ tg,GIM X tg it (evSrc J B a))/\∀ x,foldedSetIterable it X.env x=pure x:=by exact nh
 t:∀ e,cT a X.env.scope X.N bs e=true->GTM X e (evT J B a):=by exact nh
 ts:∀ l,cTs a X.env.scope X.N bs l=true->∀ pos,GWM X (.BoolOp .And l pos) (zGC J B a)/\GWM X (.BoolOp .Or l pos) (evOrT J B a):=by exact nh
theorem zAk (o:XOkM X k J B bs)(a:ME):zTI X J B bs a:=by
 induction a generalizing X with
 | pur e =>
  refine { e:=λx h=>zD5 (((zCr o.x e).e _ h).1),t:=λx h=>zFI (((zCr o.x e).e _ h).2) }
 | var i =>
  refine { e:=λx h=>?_ };replace h:cE (.var i) X.env.scope X.N bs x=true:=h;obtain⟨_,_,rfl,hq1⟩:=zAO h;replace h:=hq1;simp only[yx,qy] at h;obtain⟨⟨h2,h3⟩,h4⟩:=h;obtain⟨n1,n2⟩:=zBt h4;exact zRY h2 (zEq h3) n1 n2
 | call n f es ih =>
  have key:∀ e,cM (.call n f es) X.env.scope X.N bs e=true->GM X e (evM J B (.call n f es))/\GTM X e (asBM (evM J B (.call n f es))):=λe h=>by
   obtain⟨_,_,_,_,rfl,hq1⟩:=zBs h;obtain⟨_,_,rfl,hq2⟩:=zFr hq1;replace h:=hq2;simp only[yx,qy,Option.isNone_iff_eq_none] at h;obtain⟨⟨⟨⟨rfl,h2⟩,h3⟩,h5⟩,h4⟩:=h;have k:=λp pos=>zS4 (n:=n) (p:=p) (pos:=pos) o (zCb h2) (zBt h3).1 ((ih o).es _ h4) (zC7 h4) h5
   exact⟨k _ _,zOy (k _ _) λ_=>rfl⟩
  exact { e:=λe h=>(key e h).1,t:=λe h=>(key e h).2 }
 | lst es ih =>
  refine { e:=λx h=>?_ };obtain⟨_,_,rfl,hq1⟩:=zFq h;replace h:=hq1;have h:=(ih o).es _ h;refine(zNB h).imp fun σ H Q zz96=>?_
  obtain⟨O,G,M,r,ms,q,c⟩:=zz96;obtain⟨ws,e1,q⟩:=bind_some q;by_cases hl:ws.1.length<=10000
  .rw [if_pos hl] at q;cases q;refine⟨O,G,M,ws,ms,e1,λvs H1 T k1 c1 d1=>⟨by rw[<- d1.length];exact zCy hl,λp n=>?_⟩⟩;have s2:Same H1 (upd H1 p (.lst vs)):=zAU n _;refine c _ _ (T++[(p,.lst)]) (k1.trans (zAq s2)) ?_ ?_
   .rw [<- qJ];exact c1.new s2 n zAJ (d1.mono (zAq s2) [(p,.lst)])
   .rw [<- qJ];exact zFA c1
  .simp_all
 | tup es ih =>
  refine { e:=λx h=>?_ };obtain⟨_,_,_,rfl,hq1⟩:=zEZ h;replace h:=hq1;have h:=(ih o).es _ h;refine(zI6 h).imp fun σ H Q zz97=>?_
  obtain⟨O,G,M,r,ms,q,c⟩:=zz97;obtain⟨ws,e1,q⟩:=bind_some q;by_cases hl:ws.1.length<=10000
  .rw [if_pos hl] at q;cases q;refine⟨O,G,M,ws,ms,e1,λvs H1 T k1 c1 d1=>⟨by rw[<- d1.length];exact zCy hl,λp n=>?_⟩⟩;have s2:Same H1 (upd H1 p (.tup vs)):=zAU n _;exact c _ _ T (k1.trans (zAq s2)) (c1.same s2) (⟨p,vs,rfl,zKE zAJ,d1.keep (zAq s2)⟩)
  .simp_all
 | ix a b iha ihb =>
  refine { e:=λx h=>?_ };obtain⟨_,_,_,rfl,hq1⟩:=zA0 h;replace h:=hq1;simp only[yx] at h;obtain⟨⟨h0,h1⟩,h2⟩:=h;exact ((zQd (zJm.or zC3) ((iha o).e _ h1) ((ihb o).e _ h2) (zEa h0)).imp λ_ _ _ q=>zE5 zQg q)
 | cmp op a b iha ihb =>
  have key:∀ e,cM (.cmp op a b) X.env.scope X.N bs e=true->GM X e (evM J B (.cmp op a b))/\GTM X e (asBM (evM J B (.cmp op a b))):=λe h=>by
   obtain⟨_,z1,z2,_,rfl,hq1⟩:=zB3 h;obtain⟨_,rfl,hq2⟩:=zAc hq1;obtain⟨_,rfl,hq3⟩:=zAc hq2;replace h:=hq3;simp only[yx,cmB,qy,Bool.not_eq_true'] at h;obtain⟨⟨⟨rfl,h0⟩,h1⟩,h2⟩:=h;exact zPI (zB2 o.x) h0 ((iha o).e _ h1) ((ihb o).e _ h2)
  exact { e:=λe h=>(key e h).1,t:=λe h=>(key e h).2 }
 | or2 a b iha ihb =>
  refine { e:=λe h=>?_ };obtain⟨z1,l,pos,rfl,hq1⟩:=zCt h;obtain⟨rfl,hq2⟩:=zDD hq1;obtain⟨_,_,rfl,hq3⟩:=zDu hq2;replace h:=hq3;rw[yx] at h;exact zRa ((iha o).e _ h.1) ((ihb o).e _ h.2)
 | fld a f iha =>
  refine { e:=λx h=>?_ };obtain⟨_,_,_,rfl,hq1⟩:=zAK h;replace h:=hq1;simp only[yx,qy] at h;obtain⟨⟨rfl,h2⟩,h3⟩:=h;exact zRg ((iha o).e _ h3) (zBo h2) λc m C q=>o.x.g.ob _ m C q
 | mth ix m a es iha ihs =>
  refine { e:=λx h=>?_ };obtain⟨z1,z2,z3,_,rfl,hq1⟩:=zAl h;obtain⟨_,_,_,rfl,hq2⟩:=zAK hq1;obtain⟨rfl,hq4⟩:=zBA hq2;replace h:=hq4;simp only[yx,qy] at h;obtain⟨⟨⟨⟨⟨rfl,h2⟩,h3⟩,h4⟩,h5⟩,h6⟩:=h;cases z2 with
  | nil =>
   cases es with
   | nil=>exact zPF ((iha o).e _ h5) o.d o.x.room (zBo h2) h3
   | _=>exact(zzf h6)
  | cons x xs =>
  have st:=zC7 h6;exact zRb ((iha o).e _ h5) ((ihs o).es _ h6) o.d o.x.room (zAB (st _ xy)) (zBK (λe z=>st e (qY _ z)) _) (zBo h2) (zNX st h4 _) h3
 | mk n c kw d es ihs =>
  refine { e:=λx h=>?_ };obtain⟨_,_,_,_,rfl,hq1⟩:=zBs h;obtain⟨_,_,rfl,hq2⟩:=zFr hq1;replace h:=hq2;simp only[yx,qy] at h;obtain⟨⟨⟨⟨rfl,h2⟩,h3⟩,h6⟩,h4⟩:=h;have st:=zC7 h4;exact zS2 ((ihs o).es _ h4) o.d o.x.room (zCb h2) (zBt h3).1 (zAB (st _ xy)) (zBK (λe z=>st e (qY _ z)) _) h6
 | dnew t =>
  refine { e:=λx h=>?_ };obtain⟨z1,z2,_,rfl,hq1⟩:=zJI h;obtain⟨rfl,hq2⟩:=zBA hq1;obtain⟨rfl,_⟩:=zBA hq2;cases t with
  | false =>
   refine zLY.imp fun σ H Q zz121 p n=>?_
   obtain⟨O,G,M,r,ms,q,c⟩:=zz121;cases q;have s2:Same H (upd H p (.dK [])):=zAU n _;exact c _ _ [(p,.dic false)] (zAq s2) (ms.cells.newG s2 n ⟨[],zAJ,rfl⟩) (zNf ms.cells)
  | true =>
   refine zLX.imp fun σ H Q zz122 p n=>?_
   obtain⟨O,G,M,r,ms,q,c⟩:=zz122;cases q;have s2:Same H (upd H p (.dT [])):=zAU n _;exact c _ _ [(p,.dic true)] (zAq s2) (ms.cells.newG s2 n ⟨[],zAJ,rfl⟩) (zNf ms.cells)
 | dix a b iha ihb =>
  refine { e:=λx h=>?_ };obtain⟨_,_,_,rfl,hq1⟩:=zA0 h;replace h:=hq1;simp only[yx] at h;obtain⟨⟨h0,h1⟩,h2⟩:=h;exact zRh (Nat.lt_of_le_of_lt (by omega) (zB2 o.x)) ((iha o).e _ h1) ((ihb o).e _ h2) (zIA h0)
 | dpop a b iha ihb =>
  refine { e:=λx h=>?_ };obtain⟨z1,z2,z3,_,rfl,hq1⟩:=zAl h;obtain⟨_,_,_,rfl,hq2⟩:=zAK hq1;obtain⟨_,rfl,hq3⟩:=zAc hq2;obtain⟨rfl,hq4⟩:=zBA hq3;replace h:=hq4;simp only[yx,qy] at h;obtain⟨⟨⟨⟨⟨rfl,h2⟩,h3⟩,h4⟩,h5⟩,h6⟩:=h;exact zPG ((iha o).e _ h5) ((ihb o).e _ h6) (zAB h4) (zBo h2) h3
 | idx a b iha ihb =>
  refine { e:=λx h=>?_ };obtain⟨z1,z2,z3,_,rfl,hq1⟩:=zAl h;obtain⟨_,_,_,rfl,hq2⟩:=zAK hq1;obtain⟨_,rfl,hq3⟩:=zAc hq2;obtain⟨rfl,hq4⟩:=zBA hq3;replace h:=hq4;simp only[yx,qy] at h;obtain⟨⟨⟨⟨⟨rfl,h2⟩,h3⟩,h4⟩,h5⟩,h6⟩:=h;exact zRf ((iha o).e _ h5) ((ihb o).e _ h6) (zAB h4) (zBo h2) h3
 | lcp a iha =>
  refine { e:=λx h=>?_ };obtain⟨_,_,_,_,rfl,hq1⟩:=zBs h;obtain⟨_,rfl,hq2⟩:=zAc hq1;replace h:=hq2;simp only[yx,qy] at h;obtain⟨⟨⟨rfl,h2⟩,h3⟩,h4⟩:=h;obtain⟨g1,g2⟩:=zBC o.x h2;exact zRe g1 g2 ((iha o).e _ h4) (zAB h3)
 | len a iha =>
  refine { e:=λx h=>?_ };obtain⟨_,_,_,_,rfl,hq1⟩:=zBs h;obtain⟨_,rfl,hq2⟩:=zAc hq1;replace h:=hq2;simp only[yx,qy] at h;obtain⟨⟨⟨rfl,h2⟩,h3⟩,h4⟩:=h;obtain⟨g1,g2⟩:=zBC o.x h2;exact zRd g1 g2 ((iha o).e _ h4) (zAB h3)
 | nid a b iha ihb =>
  refine { t:=λe h=>?_ };obtain⟨_,z1,z2,_,rfl,hq1⟩:=zB3 h;obtain⟨_,rfl,hq2⟩:=zAc hq1;obtain⟨_,rfl,hq3⟩:=zAc hq2;replace h:=hq3;simp only[yx,cmB,qy,Bool.not_eq_true'] at h;obtain⟨⟨⟨rfl,h0⟩,h1⟩,h2⟩:=h;exact zO0 (Nat.lt_of_le_of_lt (by omega) (zB2 o.x)) h0 ((iha o).e _ h1) ((ihb o).e _ h2)
 | comp n ms x src el ihs ihe =>
  refine { e:=λe h=>?_ };obtain⟨v,z1,scope,pos,rfl,hq1⟩:=zCH h;obtain⟨z2,rfl,hq2⟩:=zAc hq1;obtain⟨z3,t,z4,a,rfl,hq3⟩:=zE6 hq2;obtain⟨y,py,rfl,hq4⟩:=zAO hq3;obtain⟨rfl,hq5⟩:=zBA hq4;replace h:=hq5;simp only[yx,qy] at h;obtain⟨⟨⟨⟨⟨⟨⟨⟨⟨rfl,rfl⟩,rfl⟩,h4⟩,h5⟩,h6⟩,h7⟩,h8⟩,h9⟩,h11⟩:=h;have cx:∀ s H fp,XOkM (zAb X (mask (noN X.N) ms X.N++[x]) scope s H fp) k J B bs:=λs H fp=>o.comp h6
  exact zJ3 o.x.calm (((ihs o).s _ h9).1 _) ((ihs o).s _ h9).2 (zG1 h4) (zE9 h5) (λs H fp=>zFM (X:=zAb X (mask (noN X.N) ms X.N++[x]) scope s H fp) h6 (zKM (k:=0) rfl) (zDy h7) (.inl h8)) λs H fp=>(ihe (cx s H fp)).e _ h11
 | rng a iha =>
  refine { s:=λx h=>?_ };obtain⟨_,_,_,_,rfl,hq1⟩:=zBs h;obtain⟨_,rfl,hq2⟩:=zAc hq1;replace h:=hq2;simp only[yx,qy] at h;obtain⟨⟨⟨rfl,h2⟩,h3⟩,h4⟩:=h;obtain⟨g1,g2⟩:=zBC o.x h2;exact⟨λtg=>zIL g1 g2 ((iha o).e _ h4) (zAB h3),λ_=>rfl⟩
 | rng2 a b =>
  exact {}
 | it a iha =>
  refine { s:=λx h=>?_ };replace h:(zJP x&&cM a X.env.scope X.N bs x)=true:=h;simp only[yx] at h;exact⟨λtg=>zPK ((iha o).e _ h.2),zEb h.1⟩
 | not a iha =>
  refine { t:=λe h=>?_ };obtain⟨z1,_,_,rfl,hq1⟩:=zDS h;obtain⟨rfl,hq2⟩:=zDD hq1;replace h:=hq2;exact zOz ((iha o).t _ h)
 | orl es ih =>
  refine { t:=λe h=>?_ };obtain⟨z1,_,_,rfl,hq1⟩:=zCt h;obtain⟨rfl,hq2⟩:=zDD hq1;replace h:=hq2;exact (λpins s σ H Q I q=>(((ih o).ts _ h _).2) _ pins s σ H Q I q)
 | nil =>
  refine { es:=λes h=>?_ };cases es with
  | nil=>exact zPS
  | cons x xs=>exact nof h
 | cons e es ihe ihs =>
  refine { es:=λl h=>?_,ts:=λl h pos=>?_ }
  .cases l with
   | nil=>exact nof h
   | cons x xs =>
    replace h:(zAX x&&cM e X.env.scope X.N bs x&&cMs es X.env.scope X.N bs xs)=true:=h;simp only[yx] at h;exact zMH ((ihe o).e _ h.1.2) ((ihs o).es _ h.2) (zAB h.1.1)
  .simp only [cTs] at h;split at h
   .split at h
    .exact ⟨(zIy ((ihe o).t _ h)),(zM2 ((ihe o).t _ h))⟩
    .cases h
   .rename_i hn;split at h
    .rw [yx] at h;have q:=(ihs o).ts _ h.2 pos;have ea:zGC J B (.cons e es)=andB (evT J B e) (zGC J B es):=by
      rw[zGC];exact hn
     have eo:evOrT J B (.cons e es)=orB (evT J B e) (evOrT J B es):=by
      rw[evOrT];exact hn
     rw[ea,eo];exact⟨zOx ((ihe o).t _ h.1) q.1,zRL ((ihe o).t _ h.1) q.2⟩
    .cases h
end
section
variable {X:Cx}{k:Nat}{J:Gm}{B:Dm}{bs:List Str}
theorem zFd :swapsWith e (some (.Attribute o f p)) n env=pure false:=by cases e<;>rfl
theorem zLI :swapsWith e (some (.Subscript o i p)) n env=pure false:=by cases e<;>rfl
theorem zDp (o:XOkM X k J B bs)(G:∀ x,X.fn x=true)(a:MT):(∀ st,cS' X.env.scope X.N bs a st=true->GSM X st (evS' J B a))/\∀ sts,cSs' X.env.scope X.N bs a sts=true->GSsM X sts (evSs' J B a):=by
 have Q:=o.x.nd
 induction a with
 | nil =>
  refine⟨nh,λl h=>?_⟩;cases l with
  | nil=>exact zCl
  | cons x Z=>exact nof h
 | cons a b I z =>
  refine⟨nh,λl h=>?_⟩;cases l with
  | nil=>exact nof h
  | cons x Z =>
   replace h:(cS' X.env.scope X.N bs a x&&cSs' X.env.scope X.N bs b Z)=true:=h;simp only[yx] at h;exact zBS (I.1 _ h.1) (z.2 _ h.2)
 | set i e =>
  refine⟨λst h=>?_,nh⟩;obtain⟨w,_,_,rfl,d⟩:=zA4 h;obtain⟨F,rfl,g⟩:=zAc d;obtain⟨_,_,rfl,j⟩:=zAO g;replace h:=j;simp only[yx] at h;obtain⟨⟨u,r⟩,p⟩:=h;obtain⟨T,O,_⟩:=zBO u;exact zFJ Q T O ((zAk o e).e _ p) (zBu r) (.inl (G _))
 | setC i e =>
  refine⟨λst h=>?_,nh⟩;obtain⟨w,_,_,rfl,d⟩:=zA4 h;obtain⟨F,rfl,g⟩:=zAc d;obtain⟨_,_,rfl,j⟩:=zAO g;replace h:=j;simp only[yx] at h;obtain⟨⟨u,r⟩,p⟩:=h;obtain⟨w1,w2,_⟩:=zBO r;cases e with
  | comp n ms x L el =>
   obtain⟨v,w,E,a6,rfl,S⟩:=zCH p;obtain⟨F,rfl,P⟩:=zAc S;obtain⟨N,t,V,a,rfl,Y⟩:=zE6 P;obtain⟨y,py,rfl,W⟩:=zAO Y;obtain⟨rfl,U⟩:=zBA W;replace p:=U
   .simp only [yx,qy] at p;obtain⟨⟨⟨⟨⟨⟨⟨⟨⟨rfl,rfl⟩,rfl⟩,p⟩,h5⟩,h6⟩,h7⟩,h8⟩,h9⟩,h11⟩:=p;have cx:∀ s H K,XOkM (zAb X (mask (noN X.N) ms X.N++[x]) E s H K) k J B bs:=λs H K=>o.comp h6
    exact zL3 o.x.calm (((zAk o L).s _ h9).1 _) ((zAk o L).s _ h9).2 (zG1 p) (zE9 h5) (λs H K=>zFM (X:=zAb X (mask (noN X.N) ms X.N++[x]) E s H K) h6 (zKM (k:=0) rfl) (zDy h7) (.inl h8)) (λs H K=>(zAk (cx s H K) el).e _ h11) Q w1 w2 (.inl (G _))
  | _=>cases u
 | app t e =>
  refine⟨λst h=>?_,nh⟩;obtain⟨w,_,rfl,d⟩:=zBY h;obtain⟨F,N,V,_,rfl,g⟩:=zAl d;obtain⟨_,_,_,rfl,j⟩:=zAK g;obtain⟨_,rfl,A⟩:=zAc j;obtain⟨rfl,D⟩:=zBA A;replace h:=D;simp only[yx,qy] at h;obtain⟨⟨⟨⟨⟨rfl,u⟩,r⟩,p⟩,h5⟩,h6⟩:=h;exact zPA ((zAk o t).e _ h5) ((zAk o e).e _ h6) (zAB p) (zBo u) r
 | put t M e =>
  refine⟨λst h=>?_,nh⟩;obtain⟨w,_,_,rfl,d⟩:=zA4 h;obtain⟨F,rfl,g⟩:=zAc d;obtain⟨_,_,_,rfl,j⟩:=zA0 g;replace h:=j;simp only[yx] at h;obtain⟨⟨⟨⟨R,u⟩,r⟩,p⟩,h5⟩:=h;exact zO7 ((zAk o t).e _ r) ((zAk o M).e _ p) ((zAk o e).e _ h5) (zK1 u) (zIh R) rfl rfl
 | ife c a b I z =>
  refine⟨λst h=>?_,nh⟩;obtain⟨_,_,_,_,rfl,d⟩:=zGg h;replace h:=d;simp only[yx] at h;obtain⟨⟨R,u⟩,r⟩:=h;exact zJy ((zAk o c).t _ R) (I.2 _ u) (z.2 _ r)
 | for1 i it b z =>
  refine⟨λst h=>?_,nh⟩;obtain⟨w,_,_,F,_,rfl,d⟩:=zHM h;obtain⟨_,_,rfl,g⟩:=zAO d;obtain⟨rfl,j⟩:=zBA g;replace h:=j;simp only[yx] at h;obtain⟨⟨u,r⟩,p⟩:=h;obtain⟨T,O,_⟩:=zBO u;obtain⟨s1,s2⟩:=(zAk o it).s _ r;exact zO9 o.x.own o.x.calm (s1 _) (zFM Q T O (.inl (G _))) (z.2 _ p) s2
 | ret e =>
  refine⟨λst h=>?_,nh⟩;obtain⟨w,_,rfl,d⟩:=zCG h;obtain⟨_,rfl,g⟩:=zC1 d;replace h:=g;exact zFK ((zAk o e).e _ h)
 | retN =>
  refine⟨λst h=>?_,nh⟩;obtain⟨w,_,rfl,d⟩:=zCG h;obtain⟨rfl,g⟩:=zDt d;replace h:=g;exact zL4
 | drop e =>
  refine⟨λst h=>?_,nh⟩;obtain⟨_,_,rfl,d⟩:=zBY h;replace h:=d;simp only[yx] at h;exact zL7 ((zAk o e).e _ h.2) (zBu h.1)
 | rem t e =>
  refine⟨λst h=>?_,nh⟩;obtain⟨w,_,rfl,d⟩:=zBY h;obtain⟨F,N,V,_,rfl,g⟩:=zAl d;obtain⟨_,_,_,rfl,j⟩:=zAK g;obtain⟨_,rfl,A⟩:=zAc j;obtain⟨rfl,D⟩:=zBA A;replace h:=D;simp only[yx,qy] at h;obtain⟨⟨⟨⟨⟨rfl,u⟩,r⟩,p⟩,h5⟩,h6⟩:=h;exact zRS PySem.F.slot_list_remove PySem.F.type_list_remove zJS zQO ((zAk o t).e _ h5) ((zAk o e).e _ h6) (zAB p) (zBo u) r
 | ins t M e =>
  refine⟨λst h=>?_,nh⟩;obtain⟨w,_,rfl,d⟩:=zBY h;obtain⟨F,N,V,_,rfl,g⟩:=zAl d;obtain⟨_,_,_,rfl,j⟩:=zAK g;obtain⟨_,_,rfl,A⟩:=zDu j;obtain⟨rfl,D⟩:=zBA A;replace h:=D;simp only[yx,qy] at h;obtain⟨⟨⟨⟨⟨⟨⟨rfl,u⟩,r⟩,p⟩,h4'⟩,h5⟩,h6⟩,h7⟩:=h;exact zO8 ((zAk o t).e _ h5) ((zAk o M).e _ h6) ((zAk o e).e _ h7) (zAB p) (zAB h4') (zBo u) r
 | fput a f e =>
  refine⟨λst h=>?_,nh⟩;obtain⟨w,_,_,rfl,d⟩:=zA4 h;obtain⟨F,rfl,g⟩:=zAc d;obtain⟨_,_,_,rfl,j⟩:=zAK g;replace h:=j;simp only[yx,qy] at h;obtain⟨⟨rfl,r⟩,p⟩:=h;exact zL5 ((zAk o a).e _ r) ((zAk o e).e _ p) zFd λc m C q=>o.x.g.ob _ m C q
 | faug a f e =>
  refine⟨λst h=>?_,nh⟩;obtain⟨w,_,_,_,rfl,d⟩:=zCq h;obtain⟨_,_,_,rfl,g⟩:=zAK d;replace h:=g;simp only[yx,qy,opB] at h;obtain⟨⟨⟨rfl,rfl⟩,r⟩,p⟩:=h;exact zL6 ((zAk o a).e _ r) ((zAk o e).e _ p) λc m C q=>o.x.g.ob _ m C q
 | dput t M e =>
  refine⟨λst h=>?_,nh⟩;obtain⟨w,_,_,rfl,d⟩:=zA4 h;obtain⟨F,rfl,g⟩:=zAc d;obtain⟨_,_,_,rfl,j⟩:=zA0 g;replace h:=j;simp only[yx] at h;obtain⟨⟨r,p⟩,h5⟩:=h;exact zL8 (Nat.lt_of_le_of_lt (by omega) (zB2 o.x)) ((zAk o t).e _ r) ((zAk o M).e _ p) ((zAk o e).e _ h5) zLI
 | never=>exact⟨λst h=>zF9,nh⟩
 | rse c m=>exact⟨λst h=>zF9,nh⟩
end
section
variable {P:Program}{w:World}{K:W.Frag}{mg:Str->Option Value}{base:Heap}{k:Nat}{J:Gm}{B:Dm}{bs:List Str}
theorem zGz {st:Stmt}(F:Fun K x qual st f fd)(sc:zAV N ps (zAA st))(e:cSs' (zAA st) N bs b (zAF st)=true)(g:GOk P w K mg base k J bs)(d:DmOk P w K mg base k B) :
  FnOk P w K mg base CX0 (k+1) f fd ps (spM K (zAv ps.length N.length (evSs' J B b))) :=
 zKG F sc λcdv A a s H E c =>
  (zDp ⟨⟨g,c,rfl,sc.nd,PassesOwn.never⟩,d⟩ (λ_=>rfl) b).2 _ e
theorem DmOk.mono (d:DmOk P w K mg base k B)(h:k<=j):DmOk P w K mg base j B:=λx F m=>(d x F m).mono h
noncomputable def Dm.add (B:Dm)(x:Str)(F:MF):Dm:=B++[(x,F)]
theorem DmOk.one (d:DmOk P w K mg base k B)(h:k<=j)(e:zK8 P w K mg base j x F (spec.lookup x)):DmOk P w K mg base j (B.add x F):=λy G z=>by
 rcases mem_append.mp z with z | z
 .exact (d y G z).mono h
 .grind
theorem DmOk.add {st:Stmt}(d:DmOk P w K mg base k B)(g:GOk P w K mg base k J bs)(F:Fun K x x st f fd)(sc:zAV N ps (zAA st))(c:cSs' (zAA st) N bs b (zAF st)=true)(m:mg x=some (.ref f))(e:zBJ K fd ps [])(a:spec.lookup x=none:=by walk_at "k") :
  DmOk P w K mg base (k+1) (B.add x (zAv ps.length N.length (evSs' J B b))):=d.one (Nat.le_succ k) (by rw[a];exact⟨f,fd,ps,zGz F sc c g d,m,F.kp,e⟩)
theorem DmOk.addM {st:Stmt}(d:DmOk P w K mg base k B)(g:GOk P w K mg base k J bs)(F:Fun K nm qual st f fd)(sc:zAV N ps (zAA st))(ck:cSs' (zAA st) N bs b (zAF st)=true)(bi:zBJ K fd ps [])(c1:zAp K c C)(c2:Cls K C)(c3:Meth K C m f)(hx:spec.lookup x=some (.mth c m)) :
  DmOk P w K mg base (k+1) (B.add x (zAv ps.length N.length (evSs' J B b))):=d.one (Nat.le_succ k) (by rw[hx];exact⟨C,f,fd,ps,c1,c2,c3,zGz F sc ck g d,bi⟩)
theorem DmOk.lift1 (d:DmOk P w K mg base k B)(g:GOk P w K mg base k J bs)(m:(x,F)∈J.fns)(h:spec.lookup x=none:=by walk_at "k"):DmOk P w K mg base k (B.add x (zIG F)):=by
 obtain⟨f,i,c,b,e,j,a⟩:=g.fn x F m;exact d.one (le_refl _) (by rw[h];exact⟨f,i,c,DL.FnOk.lift b,e,j,a⟩)
theorem GOk.mono (g:GOk P w K mg base k J bs)(h:k<=j):GOk P w K mg base j J bs :=
 ⟨λx F m=>let ⟨f,fd,ps,h1,h2⟩:=g.fn x F m;⟨f,fd,ps,h1.mono h,h2⟩,g.cs,g.bt,trivial,g.sb,g.rs,λj L F e=>(g.lm j L F e).mono h,g.ob⟩
end
def evX (J:Gm)(B:Dm)(L:Xm):MT->Mst->Option XR
 | .cons a b=>zEp (evX J B L a) (evS' J B a) (evX J B L b)
 | .ife c a b=>xifM (evT J B c) (evX J B L a) (evX J B L b)
 | .drop e=>(match e with
  | .mth ix m a (.cons e es)=>zHt L m (evM J B a) (evMs J B (.cons e es))
  | _=>λ_=>none)
 | .rse c m=>zJb (xrs J c (evEs J (.cons m .nil)))
 | _=>λ_=>none
section
variable {X:Cx}{k:Nat}{J:Gm}{B:Dm}{L:Xm}{bs:List Str}
theorem zIk (o:XOkM X k J B bs)(d:XmOk X.prog X.w X.K X.mg X.base k L)(y:∀ x,X.fn x=true)(j:X.xe=λ_ _=>False)(I:X.stack=X.env::X.outer)(H:X.env.frame=some X.env.locals)(a:MT) :
  (∀ st,cS' X.env.scope X.N bs a st=true->GXM X (exec st X.env) (evX J B L a))/\∀ sts,cSs' X.env.scope X.N bs a sts=true->GXM X (execs sts X.env) (evX J B L a):=by
 have w:∀ {i:Type} {m:Sem i} {f:Mst->Option XR},(∀ s,f s=none)->GXM X m f:=λh _ _ _ _ _ _ _ _ _ _ _ _ _ q=>by rw[h] at q;cases q
 have nh:∀ {sts:List Stmt} {p:Prop},false=true->p:=λh=>nomatch h
 induction a with
 | cons a b n r =>
  refine⟨λst h=>(zzf h),λsts h=>?_⟩;cases sts with
  | nil=>exact nof h
  | cons s v =>
   replace h:(cS' X.env.scope X.N bs a s&&cSs' X.env.scope X.N bs b v)=true:=h;rw[yx] at h;exact zOu j (n.1 _ h.1) ((zDp o y a).1 _ h.1) (r.2 _ h.2)
 | ife c a b n r =>
  refine⟨λst h=>?_,λsts h=>(zzf h)⟩;obtain⟨_,_,_,_,rfl,g⟩:=zGg h;replace h:=g;simp only[yx] at h;exact zRK j ((zAk o c).t _ h.1.1) (n.2 _ h.1.2) (r.2 _ h.2)
 | drop e =>
  refine⟨λst h=>?_,λsts h=>(zzf h)⟩;cases e with
  | mth ix m a es =>
   obtain⟨_,_,rfl,g⟩:=zBY h;rw[yx] at g;obtain⟨P,G,K,_,rfl,u⟩:=zAl g.2;obtain⟨_,_,_,rfl,t⟩:=zAK u;obtain⟨rfl,l⟩:=zBA t;simp only[yx,qy] at l;obtain⟨⟨⟨⟨⟨rfl,A⟩,h3⟩,h4⟩,h5⟩,h6⟩:=l;cases es with
   | cons e es =>
    cases G with
    | nil=>exact(zzf h6)
    | cons x R =>
     have st:=zC7 h6;exact zLz (zOv j ((zAk o a).e _ h5) ((zAk o (.cons e es)).es _ h6) d o.x.room (zAB (st _ xy)) (zBK (λe z=>st e (qY _ z)) _) (zBo A) (zNX st h4 _) h3) (zBu g.1)
   | _=>exact w λ_=>rfl
  | _=>exact w λ_=>rfl
 | rse c m =>
  refine⟨λst h=>?_,λsts h=>(zzf h)⟩;show GXM X _ (zJb (xrs J c (evEs J (.cons m .nil))));unfold xrs;by_cases hc:c∈J.rs
  .rw [if_pos hc];obtain⟨P,G,_,rfl,g⟩:=zH5 h;obtain⟨K,rfl,u⟩:=zC1 g;obtain⟨S,Q,T,_,rfl,t⟩:=zAl u;obtain⟨_,_,rfl,l⟩:=zAO t;obtain⟨_,rfl,E⟩:=zAc l;obtain⟨rfl,F⟩:=zBA E;obtain⟨rfl,D⟩:=zDt F;replace h:=D;simp only[yx,qy] at h;obtain⟨⟨⟨⟨rfl,A⟩,h3⟩,h4⟩,h5⟩:=h;obtain⟨C,M,O,N⟩:=o.x.g.rs c hc;exact zLy (zL0 j o.x.calm (zCb A) O M N (zBt h3).1 ((zCr o.x (.cons m .nil)).es _ (by show (zAX _&&cE m _ _ _ _&&true)=true;rw[h4,h5];rfl)).1.1 (zAB h4) (zBK (λe z=>absurd z (by simp))))
  .rw [if_neg hc];exact w λ_=>rfl
 | _=>exact⟨λ_ _=>w λ_=>rfl,λ_ _=>w λ_=>rfl⟩
end
section
variable {P:Program}{w:World}{K:W.Frag}{mg:Str->Option Value}{base:Heap}{k:Nat}{J:Gm}{B:Dm}{L:Xm}{bs:List Str}
theorem zMi {st:Stmt}(F:Fun K x qual st f fd)(sc:zAV N ps (zAA st))(i:cSs' (zAA st) N bs b (zAF st)=true)(g:GOk P w K mg base k J bs)(d:DmOk P w K mg base k B)(e:XmOk P w K mg base k L) :
  FnOk P w K mg base (CXd P w) (k+1) f fd ps (spMX K (zBx ps.length N.length (evX J B L b))) :=
 zMJ F sc λcdv A a s H E h =>
  (zIk (X:=(cxOf (CXd P w) P w K mg base N qual (zAA st) f cdv A a s H E).nox) ⟨⟨g,h,rfl,sc.nd,PassesOwn.never⟩,d⟩ e (λ_=>rfl) rfl rfl rfl b).2 _ i
theorem EntX.mono (h:EntX P w K mg base k F s)(l:k<=j):EntX P w K mg base j F s:=by
 unfold EntX at h ⊢;split at h
 .obtain ⟨C,f,g,e,b,i,d,a,c⟩:=h;exact⟨C,f,g,e,b,i,d,a.mono l,c⟩
 .exact h.elim
theorem XmOk.nil:XmOk P w K mg base k []:=λ_ _ z=>nomatch z
theorem XmOk.addM {st:Stmt}(e:XmOk P w K mg base k L)(d:DmOk P w K mg base k B)(g:GOk P w K mg base k J bs)(F:Fun K nm qual st f fd)(sc:zAV N ps (zAA st))(l:cSs' (zAA st) N bs b (zAF st)=true)(n:zBJ K fd ps [])(j:zAp K c C)(a:Cls K C)(h:Meth K C m f)(i:spec.lookup x=some (.mth c m)) :
  XmOk P w K mg base (k+1) (L++[(x,zBx ps.length N.length (evX J B L b))]):=λy G z=>by
 rcases mem_append.mp z with z | z
 .exact (e y G z).mono (Nat.le_succ k)
 .have q:(y,G)=(x,zBx ps.length N.length (evX J B L b)):=by simpa using z
  cases q;rw[i];exact⟨C,f,fd,ps,j,a,h,zMi F sc l g d e,n⟩
end
theorem zPz (hx:H x=some (.ins C dx fs))(nd:zEC fs=false):zCd (fzH H) (fzH (upd H x o)):=λb u q n=>by
 obtain⟨q1,q2⟩:=zCc.mp q;by_cases e:b=x
 .grind
 .exact zCc.mpr ⟨by rw[zAI e];exact q1,q2⟩
theorem zAD.updI {K:W.Frag}(c:zAD K H O M)(g:H x=some (.ins C dx fs))(f:zEC fs=false)(nm:mutF fs=false):zAD K (upd H x o) O M :=
 ⟨c.len,c.nd,λn e q=>let ⟨p,h1,h2⟩:=c.at_ n e q;⟨p,h1,by
  have b:p.1≠x:=λz=>by
   obtain⟨u,d,a⟩:=h2.some
   simp_all
   cases d;rw[show fz1 _=if mutF fs=true then none else some _ from rfl] at a;grind
  have:=h2.monoF (zPz (o:=o) g f) (zAI b) [];rwa [append_nil] at this⟩⟩
noncomputable def zFF:List (Str×(Mst->Option MR))->Mst->Option (List W×Mem)
 | [],s=>some ([],s.M)
 | p::r,s=>(p.2 s).bind λw=>(zFF r ⟨s.G,w.2⟩).map λz=>(w.1::z.1,z.2)
noncomputable def mkR (c:Str)(ns:List Str)(z:List W×Mem):MR:=if mutK ns=true then (.ob c ns z.2.length,z.2++[z.1]) else (.obj c ns z.1,z.2)
noncomputable def zF7 (c:Str)(n:Nat)(L:List (Str×(Mst->Option MR))):MF:=λws M=>if ws.length=n then (zFF L ⟨none::ws.map some,M⟩).map (mkR c (L.map (·.1))) else none
def iT (K:W.Frag)(C dx x:Addr)(H1:Hp)(α0:List CA)(σ0:St)(G:List (Option W))(full:List Str)(L:List (Str×(Mst->Option MR))):TS:=λE σ H =>
 ∃ T M fs vs acc z,σ=σ0/\H x=some (.ins C dx fs)/\x∉(α0++T).map (·.1)/\Kp H1 H/\zAD K H (α0++T) M/\fs.map (·.1)++L.map (·.1)=full/\((fs.map (·.1)).map λn=>fs.lookup n)=vs.map some/\DenWL K H (α0++T) acc vs/\zFF L ⟨G,M⟩=some z /\
  ∀ T' H' fs' vs',x∉(α0++T').map (·.1)->Kp H1 H'->zAD K H' (α0++T') z.2->H' x=some (.ins C dx fs')->fs'.map (·.1)=full->(full.map λn=>fs'.lookup n)=vs'.map some->DenWL K H' (α0++T') (acc++z.1) vs'->E.nx σ0 H'
noncomputable def zOF (full:List Str):Bool:=(List.range full.length).all λi=>!(zKh (full.take i))&&!(mutK (full.take i))
inductive zEM (X:Cx) (y:Str):List Stmt->List (Str×(Mst->Option MR))->Prop where
 | nil:zEM X y [] []
 | cons {f:Str} {e:Expr} {g:Mst->Option MR} {p p2 pos:Pos} {rest:List Stmt} {L:List (Str×(Mst->Option MR))} (h:GM X e g) (t:zEM X y rest L):zEM X y (.Assign [.Attribute (.Name y p) f p2] e pos::rest) ((f,g)::L)
theorem zEy {f:Str}{v:V}:∀ {fs:List (Str×V)},f∉fs.map (·.1)->putF f v fs=fs++[(f,v)]
 | [],_=>rfl
 | (g,u)::r,h=>by
  rw[map_cons,mem_cons,not_or] at h;unfold putF;rw[if_neg (λz=>h.1 z.symm),zEy h.2]
  rfl
theorem zLu {α0:List CA}{σ0:St}(cl:Cls X.K C)(na:∀ n∈full,zBM X.K C n)(nd:full.Nodup)(hp:zOF full=true)(hl:full.length<=100)(n1:H1 x=none)
  (hy:X.N[0]?=some y) (vy:Vis X.env.scope y) (oy:okN y=true) (Z5:σ0[0]?=some (some (.ref x))) (E:σ0.length=G.length) (B:∀ (i:Nat) w,G[i]?=some (some w)->∃ v,σ0[i]?=some (some v)/\DenW X.K H1 α0 w v) :
  ∀ {j:List Stmt} {L:List (Str×(Mst->Option MR))},zEM X y j L->PSs X j (iT X.K C dx x H1 α0 σ0 G full L):=by
 intro j L h
 induction h with
 | nil =>
  refine zGa.imp λE σ H d=>?_
  obtain⟨T,M,fs,U,s,z,F,hx,nx,I,R,c,Y,K,r,k⟩:=d;cases r;subst F;simp only[map_nil,append_nil] at c;exact k T H fs U nx I R hx c (by rw[<- c];exact Y) (by rw[append_nil];exact K)
 | @cons f e g p p2 pos rest L hg t ih =>
  refine(zEz (zM8 (zDR hy vy (zBt oy).1 (zBt oy).2) hg zFd) ih).imp λE σ H l=>?_
  obtain⟨T,M,fs,U,s,z,F,hx,nx,I,R,c,Y,K,r,k⟩:=l;subst F;obtain⟨w,ew,r⟩:=bind_some r;obtain⟨z',ez,e3⟩:=yj.mp r;cases e3;have ms:MS X.K H (α0++T) M σ G:=⟨R,E,λi w q=>let ⟨v,q1,O⟩:=B i w q;⟨v,q1,O.mono I T⟩⟩;refine⟨α0++T,G,M,w,ms,ew,λv A D Q c2 dv=>⟨.ref x,Z5,x,C,dx,fs,rfl,?_⟩⟩;have mf:f∈full:=by rw[<- c];simp
  have lf:fs.length < full.length:=by
   have:=congrArg List.length c;simp only[qj,List.length_map,x9] at this;omega
  have tk:full.take fs.length=fs.map (·.1):=by
   rw[<- c,List.take_append_of_le_length (by rw[List.length_map];exact le_refl _),List.take_of_length_le (by rw[List.length_map];exact le_refl _)]
  have J:zEC fs=false/\mutF fs=false:=by
   unfold zOF at hp;have:=all_eq_true.mp hp fs.length (mem_range.mpr lf);rw[tk,yx,Bool.not_eq_true',Bool.not_eq_true'] at this;exact this
  have u:=J.1;have a:A x=some (.ins C dx fs):=zBc _ _ (Q _ _ (zHa hx J.2));have a8:x∉(α0++(T++D)).map (·.1):=by
   rw[<- qJ];exact c2.out a (zCc.mp (zHa a J.2)).2
  have Z:f∉fs.map (·.1):=by
   rw[<- c] at nd;have:=(nodup_append.mp nd).2.2;exact λm=>this f m f (by simp) rfl
  refine⟨a,cl,na f mf,by omega,?_⟩;have up:zCd (fzH A) (fzH (upd A x (.ins C dx (putF f v fs)))):=zPz a u;have tr:∀ {N:List W} {us:List V},DenWL X.K A (α0++T++D) N us->DenWL X.K (upd A x (.ins C dx (putF f v fs))) (α0++(T++D)) N us:=λ{N us} q=>by
   have:=q.monoF up [];rw[append_nil,qJ] at this;exact this
  refine⟨T++D,w.2,putF f v fs,U++[v],s++[w.1],z',rfl,zAJ,a8,λb o q=>?_,?_,?_,?_,?_,ez,λT' H' P S a0 a1 a2 a3 a4 a5 a6=>k T' H' P S a0 a1 a2 a3 a4 a5 (by simpa using a6)⟩
  .have O:=Q _ _ (I _ _ q);have ne:b≠x:=λz=>by
    rw[z] at q;have:=zBc _ _ q;rw[n1] at this;cases this
   obtain⟨g1,g2⟩:=zCc.mp O;exact zCc.mpr ⟨by rw[zAI ne];exact g1,g2⟩
  .rw [<- qJ];exact c2.updI a u J.2
  .rw [zEy Z,yq,qJ];exact c
  .have F:(putF f v fs).map (·.1)=fs.map (·.1)++[f]:=by rw[zEy Z,yq];rfl
   rw[F,yq,yq,<- Y];congr 1
   .refine List.map_congr_left λn hn=>?_
    rw[zCI,if_neg (λz=>Z (by rw[<- z];exact hn))]
   .show [(putF f v fs).lookup f]=[some v];rw[zCI,if_pos rfl]
  .exact tr ((K.mono Q D).append (.cons dv .nil))
noncomputable def zG4 (sc:Scope)(N bs:List Str)(y:Str):List (Str×ME)->List Stmt->Bool
 | [],[]=>true
 | (f,m)::L,s::r=>(zBk s λz1 v _=>on1 z1 λz2=>zAa z2 λo f' _=>zA1 o λy' _=>decide (y'=y)&&decide (f'=f)&&cM m sc N bs v)&&zG4 sc N bs y L r
 | _,_=>false
section
variable {P:Program}{w:World}{K:W.Frag}{mg:Str->Option Value}{base:Heap}{k:Nat}{J:Gm}{B:Dm}{bs:List Str}
theorem zHn (o:XOkM X k J B bs):∀ {L:List (Str×ME)} {sts:List Stmt},zG4 X.env.scope X.N bs y L sts=true->zEM X y sts (L.map λp=>(p.1,evM J B p.2))
 | [],[],_=>.nil
 | [],_::_,h=>(zzf h)
 | _::_,[],h=>(zzf h)
 | (f,m)::L,s::r,h=>by
  unfold zG4 at h;rw[yx] at h;obtain⟨h,h2⟩:=h;obtain⟨z1,_,_,rfl,hq1⟩:=zA4 h;obtain⟨z2,rfl,hq2⟩:=zAc hq1;obtain⟨_,_,_,rfl,hq3⟩:=zAK hq2;obtain⟨_,_,rfl,hq4⟩:=zAO hq3;simp only[yx,qy] at hq4;obtain⟨⟨rfl,rfl⟩,h4⟩:=hq4;exact .cons ((zAk o m).e _ h4) (zHn o h2)
theorem zIb:∀ {fs:List (Str×V)},(fs.map (·.1)).Nodup->((fs.map (·.1)).map λn=>fs.lookup n)=(fs.map (·.2)).map some
 | [],_=>rfl
 | (n,v)::r,h=>by
  rw[map_cons,nodup_cons] at h;rw[map_cons,map_cons,map_cons,map_cons,<- zIb h.2];congr 1
  .show (match n==n with | true=>some v | false=>r.lookup n)=_;rw[beq_self_eq_true]
  .refine List.map_congr_left λm hm=>?_
   rw[lookup_cons];have:(m==n)=false:=beq_eq_false_iff_ne.mpr λz=>h.1 (z▸hm)
   rw[this]
theorem zGq {f C:Addr}{a c y:Str}{st:Stmt}{dV kV U pm m ct oc:Value}{an od:Option Addr}{b0:Array (Option Value)}{ys:List Str}{L:List (Str×ME)}(lk:K.lookup f=some ⟨oc,od,.func (W.fnOf "__init__" a (zAg st) (zAF st) (zAA st) dV kV U pm an m ct),b0⟩)
  (b3:W.codeIn K m a=true) (S:zAV (y::ys) (y::ys) (zAA st)) (vy:visB (zAA st) y=true) (oy:okN y=true) (ck:zG4 (zAA st) (y::ys) bs y L (zAF st)=true) (g:GOk P w K mg base k J bs) (d:DmOk P w K mg base k B)
  (cn:zAp K c C) (cl:Cls K C) (na:∀ n∈L.map (·.1),zBM K C n) (nd:(L.map (·.1)).Nodup) (hp:zOF (L.map (·.1))=true) (I:zKh (L.map (·.1))=true\/mutK (L.map (·.1))=true) (hl:(L.map (·.1)).length<=100) :
  FnOk P w K mg base CX0 (k+1) f (W.fnOf "__init__" a (zAg st) (zAF st) (zAA st) dV kV U pm an m ct) (y::ys) (spI K C (zF7 c ys.length (L.map λp=>(p.1,evM J B p.2)))):=by
 have l:(L.map λp=>(p.1,evM J B p.2)).map (·.1)=L.map (·.1):=by rw[map_map];rfl
 refine zML lk b3 S (λvs H Q E h=>?_) λA F s H vs Q E hr h=>?_
 .obtain ⟨x,dx,H1,us,O,M,T,r,rfl,_,_,_,_,_,Y,u,_⟩:=h;unfold zF7 at u;by_cases q:T.length=ys.length
  .rw [x9,<- Y.length,q];rfl
  .rw [if_neg q] at u;cases u
 obtain⟨x,dx,H1,us,O,M,T,r,rfl,n1,n2,n3,rfl,cc,Y,u,j⟩:=h;unfold zF7 at u;have q:T.length=ys.length:=Classical.byContradiction λz=>by rw[if_neg z] at u;cases u
 rw[if_pos q] at u;obtain⟨z,ez,e3⟩:=yj.mp u;subst e3;have o:XOkM (cxOf CX0 P w K mg base (y::ys) a (zAA st) f m A F s (upd (upd H1 dx (.own x)) x (.ins C dx [])) E).nox k J B bs:=⟨⟨g,hr,rfl,S.nd,PassesOwn.never⟩,d⟩;have D:L2.zB8 (y::ys) (.ref x::us)=some (.ref x)::us.map some:=by
  unfold L2.zB8;have:(y::ys).length - (V.ref x::us).length=0:=by rw[x9,x9,<- Y.length,q];omega
  rw[this];simp
 refine⟨_,PSs.nox (zLu (σ0:=L2.zB8 (y::ys) (.ref x::us)) (G:=none::T.map some) (α0:=O) (H1:=H1) (x:=x) (dx:=dx) cl na nd hp hl n1 rfl (zEq vy) oy (by rw[D];rfl) (by rw[D,x9,x9,List.length_map,List.length_map,Y.length]) (λi w e=>?_) (zHn o ck)),?_⟩
 .cases i with
  | zero=>cases e
  | succ i =>
   have e':(T.map some)[i]?=some (some w):=e;rw[getElem?_map] at e';obtain⟨w',e1,e2⟩:=yj.mp e';cases e2;obtain⟨v,q1,q2⟩:=Y.get e1;refine⟨v,?_,q2⟩;rw[D];show (us.map some)[i]?=_;rw[getElem?_map,q1];rfl
 .have sm:Same H1 (upd (upd H1 dx (.own x)) x (.ins C dx [])):=(zAU n2 _).trans (zAU (by rw[zAI (Ne.symm n3)];exact n1) _);refine⟨[],M,[],[],[],z,rfl,zAJ,by rw[append_nil];exact cc.outN n1,zAq sm,by rw[append_nil];exact cc.same sm,l,rfl,.nil,ez,λT' Z b R a0 a1 a2 a3 X a5 a6=>?_⟩;rw[l] at j;by_cases mu:mutK (L.map (·.1))=true
  .have er:mkR c (L.map (·.1)) z=(.ob c (L.map (·.1)) z.2.length,z.2++[z.1]):=if_pos mu;rw[er] at j;have ev:R=b.map (·.2):=by
    rw[<- X,zIb (by rw[X];exact nd)] at a5;exact(List.map_inj_right (λ_ _ z=>xY z)).mp a5.symm
   rw[ev] at a6;have em:mutF b=true:=by unfold mutF;rw[X];exact mu
   have a7:DenWL K Z (O++T'++[(x,.ins c (L.map (·.1)))]) z.1 (b.map (·.2)):=a6.mono (Kp.refl Z) _;refine j Z (T'++[(x,.ins c (L.map (·.1)))]) a1 ?_ ?_
   .rw [<- qJ];exact a2.more a0 ⟨C,dx,b,a3,em,cn,X,a7⟩
   .rw [DenW,<- qJ];exact⟨x,by rw[getElem?_append_right (by rw[a2.len];omega),a2.len,sub_self];rfl,rfl⟩
  .have er:mkR c (L.map (·.1)) z=(.obj c (L.map (·.1)) z.1,z.2):=if_neg mu;rw[er] at j;have I:=I.resolve_right mu;have hd:zEC b=true:=by unfold zEC;rw[X];exact I
   refine j Z T' a1 a2 ?_;rw[DenW];exact⟨x,R,rfl,⟨C,dx,b,zHa a3 (zHe hd),hd,cn,a5⟩,a6⟩
theorem zEE (b:fd.defaults=.ref T)(a:K.lookup T=some ⟨oc,od,.seq #[.none] n,sl⟩)(d:K.In s.heap)
  (c:bindArgs fd args=seqItems? fd.defaults>>=kk) (e:kk (some #[.none])=pure binds):BindsTo s fd args binds:=.of_defaults b (d _ _ a) rfl c e
theorem DmOk.addC (d:DmOk P w K mg base k B)(hj:j < k)(hx:spec.lookup x=some (.mk c kw))(m:mg c=some (.ref C))(M:Mk K C f)(FO:FnOk P w K mg base CX0 j f fd ps (spI K C F))(b1:zBJ K fd ps [])(b2:kw ≠ ""->zBJ K fd ps [.none]/\KB K fd ps kw) :
  DmOk P w K mg base k (B.add x F):=d.one (le_refl k) (by rw[hx];exact⟨j,C,f,fd,ps,hj,m,M,FO,b1,b2⟩)
end
theorem zC6 :∀ (names:List (Str×NameKind)) (acc:List (Str×Addr)),(∀ p∈names,p.2=.free->∃ c,cs.lookup p.1=some c) ->
  ∃ cl,clos names cs acc=some cl/\cl.map (·.1)=((names.filter λp=>p.2==.free).map (·.1)).reverse++acc.map (·.1)/\∀ p∈cl,p∈acc\/cs.lookup p.1=some p.2
 | [],acc,_=>⟨acc,rfl,by simp,λp hp=>.inl hp⟩
 | (x,k)::names,acc,h=>by
  unfold clos;by_cases e:(k==NameKind.free)=true
  .obtain ⟨c,ec⟩:=h (x,k) xy (eq_of_beq e);obtain⟨cl,h1,h2,h3⟩:=zC6 names ((x,c)::acc) λp hp=>h p (qY _ hp)
   dsimp only at ec;rw[if_pos e,ec];refine⟨cl,h1,?_,λp hp=>?_⟩
   .rw [h2,filter_cons];simp[e]
   .rcases h3 p hp with z | z
    .rcases mem_cons.mp z with z | z
     .right;rw[z];exact ec
     .exact .inl z
    .exact .inr z
  .obtain ⟨cl,h1,h2,h3⟩:=zC6 names acc λp hp=>h p (qY _ hp)
   rw[if_neg e];refine⟨cl,h1,?_,h3⟩;rw[h2,filter_cons];simp[e]
theorem zFe {cs:List (Str×Addr)}(inj:∀ x y c,cs.lookup x=some c->cs.lookup y=some c->x=y):∀ {cl:List (Str×Addr)},(∀ p∈cl,cs.lookup p.1=some p.2)->(cl.map (·.1)).Nodup->(cl.map (·.2)).Nodup
 | [],_,_=>by simp
 | p::cl,h,nd=>by
  rw[map_cons,nodup_cons] at nd ⊢;refine⟨λz=>?_,zFe inj (λq hq=>h q (qY _ hq)) nd.2⟩;obtain⟨q,hq,e⟩:=mem_map.mp z;have b:=h p xy;have a:=h q (qY _ hq);rw[e] at a;exact nd.1 (mem_map.mpr ⟨q,hq,inj _ _ _ a b⟩)
noncomputable def capD:List Nat->List (Option W)->Option (List D)
 | [],_=>some []
 | i::ix,G=>(match G[i]? with
  | some (some (.dat d))=>some d
  | some (some (.obj c ns l))=>some (dobj c ns l)
  | _=>none).bind λd=>(capD ix G).bind λds=>some (d::ds)
noncomputable def lamE (Fg:MF)(j:Nat)(L:LamI)(ix:List Nat)(ge:Mst->Option MR):Mst->Option MR:=λs=>(ge s).bind λw=>(capD ix s.G).bind λds=>if noLs ds=true then Fg [w.1,.dat (.lam j L ds)] w.2 else none
noncomputable def lamM (Fg:MF)(j:Nat)(L:LamI)(ix:List Nat)(np nN:Nat)(gp:Mst->Option OutM)(ge:Mst->Option MR):MF:=zAv np nN λs=>(gp s).bind λo=>match o with
 | .nx s'=>retM (lamE Fg j L ix ge) s'
 | _=>none
theorem zNh {K:W.Frag}{σ:St}(ms:MS K H O M σ G):∀ {ix:List Nat} {ds:List D},capD ix G=some ds->∃ us,DenL K (fzH H) ds us/\us.length=ix.length/\∀ (k i:Nat),ix[k]?=some i->∃ v,us[k]?=some v/\σ[i]?=some (some v)
 | [],ds,e=>by
  cases e;exact⟨[],.nil,rfl,λk i z=>by simp at z⟩
 | i::ix,ds,e=>by
  unfold capD at e;obtain⟨d,e0,e⟩:=bind_some e;obtain⟨ds',e1,e⟩:=bind_some e;cases e;obtain⟨us,h1,h2,h3⟩:=zNh ms e1;have hv:∃ v,σ[i]?=some (some v)/\Den K (fzH H) d v:=by
   split at e0
   .rename_i d' q;cases e0;obtain⟨v,g1,g2⟩:=ms.get i _ q;rw[DenW] at g2;exact⟨v,g1,g2⟩
   .rename_i c ns l q;cases e0;obtain⟨v,g1,g2⟩:=ms.get i _ q;exact⟨v,g1,zHf g2⟩
   .cases e0
  obtain⟨v,g1,g2⟩:=hv;refine⟨v::us,.cons g2 h1,by rw[x9,x9,h2],λk i' z=>?_⟩;cases k with
  | zero =>
   have:i=i':=by simpa using z
   subst this;exact⟨v,rfl,g1⟩
  | succ k=>exact h3 k i' (by simpa using z)
theorem zFn {O T:Type}{R:O->T->Prop}:∀ {l:List O} {m:List T},l.length=m.length->(∀ (k:Nat) a b,l[k]?=some a->m[k]?=some b->R a b)->Paired R l m
 | [],[],_,_=>.nil
 | [],_::_,e,_=>by simp at e
 | _::_,[],e,_=>by simp at e
 | a::l,b::m,e,h=>.cons (h 0 a b (by simp) (by simp)) (zFn (by simpa using e) λk a' b' q1 q2=>h (k+1) a' b' (by simpa using q1) (by simpa using q2))
noncomputable def zE2 (H:Hp)(h:Heap)(S:List Addr):Hp:=λb=>if b∈S then (h.get? b).map (λo=>.frz o anyU) else H b
section
variable {X:Cx}{pins:List (Addr×Obj)}{σ:St}{H:Hp}{s:Shared}
theorem zMY (I:Inv X pins σ H s){S:List Addr}(g:∀ b∈S,∃ y,X.env.cells.lookup y=some b)(i:∀ y,X.fn y=true) :
  Same H (zE2 H s.heap S)/\(∀ b∈S,∃ o v,zE2 H s.heap S b=some (.frz o anyU)/\s.heap.get? b=some o/\o.data=.cell v)/\(∀ b,b∉S->zE2 H s.heap S b=H b)/\(∀ b∈S,X.s0.heap.objs.size<=b)/\Env0 X.prog X.w X.K X.mg X.base X.A X.stack s (zE2 H s.heap S):=by
 have out:∀ {b:Addr},b∉S->zE2 H s.heap S b=H b:=λz=>if_neg z
 have free:=λ{b} z=>let ⟨y,e⟩:=g b z;I.freeC y b e
 have k:∀ {b:Addr} {u:HO},H b=some u->b∉S:=λ{b u} e z=>by rw[free z] at e;cases e
 have f:Same H (zE2 H s.heap S):=λb u e=>by rw[out (k e)];exact e
 have d:∀ b∈S,∃ o v,zE2 H s.heap S b=some (.frz o anyU)/\s.heap.get? b=some o/\o.data=.cell v:=λb z=>by
  obtain⟨y,e⟩:=g b z;obtain⟨v,o,j,n⟩:=I.cell y b e;refine⟨o,v,?_,j,n⟩;unfold zE2
  simp_all
 have big:=λb z=>let ⟨y,e⟩:=g b z;I.ok.cab y b (i y) e
 have a:=I.env0;refine⟨f,d,λb z=>out z,big,⟨a.frames,a.mod,λb o e=>⟨(a.bs b o e).1,?_⟩,a.bsz,a.funs,λb z=>?_,λb u e=>?_,a.bare,a.tree,λx m c P e=>f _ _ (a.tabs x m c P e)⟩⟩
 .have h:b∉S:=λz=>absurd (lt_size e) (Nat.not_lt.mpr (le_trans I.ok.bsz (big b z)))
  rw[out h];exact(a.bs b o e).2
 .have h:b∉S:=λz2=>by
   rcases mem_cons.mp (I.stkSub b z) with q | q
   .obtain ⟨y,e⟩:=g b z2;exact I.cne y b e q
   .obtain ⟨_,o,j,_⟩:=I.ok.funs.mem q;exact absurd (lt_size j) (Nat.not_lt.mpr (big b z2))
  rw[out h];exact a.frf b z
 .by_cases z:b∈S
  .obtain ⟨o,v,p,r,_⟩:=d b z;rw[p] at e;cases e;exact zD8 r
  .rw [out z] at e;exact(I.hok b u e).stay (λ_ _ _ q=>q) (λ_ q=>f _ _ q) (λ_ _ q=>f _ _ q) λ_ _ _ q _=>f _ _ q
end
theorem zNq {S:List Addr}(c:Un fs [] H H1 h h1)(big:∀ b∈S,h.objs.size<=b)(s:h.objs.size<=L)(k:Same H1 H2)(out:∀ b,b∉S->H2 b=H1 b)(d:Un (L::fs) [] H2 H' h1 h'):Un fs [] H H' h h':=by
 have m:∀ {b:Addr} {o:Obj},h.get? b=some o->b∉S:=λ{b o} e z=>absurd (lt_size e) (Nat.not_lt.mpr (big b z))
 have p:∀ {b:Addr} {o:Obj},h.get? b=some o->b≠L:=λ{b o} e z=>absurd (lt_size e) (Nat.not_lt.mpr (by simp_all))
 have no:∀ {b:Addr} {o:Obj},h.get? b=some o->H b=none->H2 b=none:=λ{b o} e n=>by rw[out b (m e)];exact c.free b o e n (by simp)
 refine⟨λb o e n g a=>d.keep b o (c.keep b o e n g a) (no e n) (λz=>(mem_cons.mp z).elim (p e) g) a,λb o e n g a=>?_,λb o e n a=>?_,λb o e a=>?_,λb l e=>d.tups b l (k _ _ (c.tups b l e)),λb o u e=>d.frzs b o u (k _ _ (c.frzs b o u e)),λb q e=>d.tbls b q (k _ _ (c.tbls b q e))⟩
 .obtain ⟨sl,f⟩:=c.slot b o e n g a;obtain⟨j,r⟩:=d.slot b _ f (no e n) (qY _ g) a;exact⟨j,r⟩
 .obtain ⟨i,f⟩:=c.there b o e a;exact d.free b i f (no e n) a
 .obtain ⟨i,f⟩:=c.there b o e a;exact d.there b i f a
structure zEm (K:W.Frag)(x:Str)(st:Stmt)(f:Addr)(N:List Str)(pre:List Stmt)(e:Expr)(g:Str)(L:LamI)(ix:List Nat):Prop where
 body:∃ q1 lp cp rp,zAF st=pre++[.Return (some (.Call (.Name g q1) [e,.Lambda L.params L.body L.scope lp] [] cp)) rp]
 star:zAX e=true
 qual:L.qual=x ++ ".<locals>." ++ "<lambda>"
 lam:x∈zBe
 fnq:zER K x=some f
 tab:∃ c P,tabQ K x=some (c,P)
 gl:glB (zAA st) g=true
 okg:okN g=true
 dflt:∀ env,defaultsOf L.params env=([],[])
 nd:(frN L).Nodup
 len:ix.length=(frN L).length
 cap:∀ (k:Nat) y,(frN L)[k]?=some y->∃ i,ix[k]?=some i/\N[i]?=some y/\(zAA st).names.lookup y=some .cell
 free:∀ p∈L.scope.names,p.2=.free->p.1∈frN L
theorem PS.nox {st:Stmt}(h:PS X.nox st t):PS X st t:=λpins s σ H D I b =>
 wpAny_mono (h pins s σ H D (I.wish _) b) (λ_ _ q=>q.unwish) λ_ _ z=>False.elim z
theorem zOk {K:W.Frag}{st:Stmt}(F:Fun K nm x st f fd)(sc:zAV N ps (zAA st))(LD:zEm K x st f N pre e g L ix)
  (hpre:(pre=[]/\gp=λs=>some (.nx s))\/∃ s1,pre=[s1]/\∀ cdv A outer s H E,Room k (A.deeper (envOfC x (zAA st) s.heap.objs.size f cdv))->GSM (cxOf CX0 P w K mg base N x (zAA st) f cdv A outer s H E).nox s1 gp)
  (he:∀ cdv A outer s H E,Room k (A.deeper (envOfC x (zAA st) s.heap.objs.size f cdv))->GM (cxOf CX0 P w K mg base N x (zAA st) f cdv A outer s H E).nox e ge)
  (gg:FnOk P w K mg base CX0 k fg fdg psg (spM K Fg)) (mgg:mg g=some (.ref fg)) (kg:W.keepIn K (.ref fg)=true) (bg:zBJ K fdg psg []):FnOk P w K mg base CX0 (k+1) f fd ps (spM K (lamM Fg j L ix ps.length N.length gp ge)):=by
 obtain⟨oc,od,kV,doc,pm,an,cdv,ct,osl,rfl,lk,hcd⟩:=F.ex;have lenS:∀ vs H Q E,spM K (lamM Fg j L ix ps.length N.length gp ge) vs H Q E->vs.length=ps.length:=λvs H Q E h=>by
  obtain⟨O,M,ws,r,c,d,hF,n⟩:=h;unfold lamM zAv at hF;by_cases q:ws.length=ps.length/\ps.length<=N.length
  .rw [<- d.length];exact q.1
  .rw [if_neg q] at hF;cases hF
 refine⟨lenS,λA outer s H args us vs Q E hr e0 hb r hsp=>?_⟩;have hl:=lenS _ _ _ _ hsp;have KX:K.In s.heap:=e0.mod.kin.keeps λb o e=>(e0.bs b o e).1
 have lim:s.heap.NoLimit:=e0.mod.nolimit.keeps λb o e=>(e0.bs b o e).1
 have hkind:∀ y∈ps.zip us,(zAA st).names.lookup y.1=some .local\/((zAA st).names.lookup y.1=some .cell/\((cellsFrom (s.heap.objs.size+1) (zAA st).names []).lookup y.1).isSome=true):=λzz139 hy=>by
  obtain⟨n,v⟩:=zz139;rcases sc.par n (of_mem_zip hy).1 with q | q
  .exact .inl q
  .exact .inr ⟨q,W.cellsFrom_some _ _ _ (.inl q)⟩
 refine codeAny_call_function hr.depth (KX _ _ lk) rfl sc.co sc.gen rfl (W.codeRec_of KX hcd) (hb _ _ _ _ ?_);refine wpAny_newFunctionEnv_cells sc.kind hkind λenv he' s1 xx=>?_
 subst he';refine⟨lim.keeps xx.toInCall.keep,codeAny_func ?_⟩;have I:Inv (cxOf CX0 P w K mg base N x (zAA st) f cdv A outer s H E) [] (zB8 N vs) H s1:=zF6 sc hr.hd (by have:=hr.dp;show A.depth+1+100 < _;omega) e0 hl r xx;have hr2:Room k (cxOf CX0 P w K mg base N x (zAA st) f cdv A outer s H E).A:=hr.deeper _;obtain⟨q1,lp,cp,rp,eb⟩:=LD.body;obtain⟨O,M,ws,rr,cc,dw,hF,fin⟩:=hsp;unfold lamM zAv at hF;have hq:ws.length=ps.length/\ps.length<=N.length:=Classical.byContradiction λz=>by rw[if_neg z] at hF;cases hF
 rw[if_pos hq] at hF;obtain⟨o,eo,hF⟩:=bind_some hF;obtain⟨o1,eo1,eo2⟩:=bind_some (show ((gp _).bind _)=some o from eo);have ms0:MS K H O M (zB8 N vs) (ws.map some++List.replicate (N.length - ps.length) none):=by
  have:=zDi (N:=N) cc dw (by rw[hq.1];exact hq.2);rwa [hq.1] at this
 obtain⟨c0,P0,etab⟩:=LD.tab;have ecode:cdv=.ref c0:=zFc etab LD.fnq lk;have key:∀ (sa:Mst) (s1:Shared) (O6:St) (H1:Hp) (O2:List CA),Inv (cxOf CX0 P w K mg base N x (zAA st) f cdv A outer s H E) [] O6 H1 s1->MS K H1 (O++O2) sa.M O6 sa.G->Kp H H1->lamE Fg j L ix ge sa=some rr ->
   wpAny (model P w) (cxOf CX0 P w K mg base N x (zAA st) f cdv A outer s H E).A (eval (.Call (.Name g q1) [e,.Lambda L.params L.body L.scope lp] [] cp) (cxOf CX0 P w K mg base N x (zAA st) f cdv A outer s H E).env) (λu s'=>CE outer P w H s Q u s') (cxOf CX0 P w K mg base N x (zAA st) f cdv A outer s H E).xe s1:=by
  intro sa s1 O6 H1 O2 I ms kp1 hE;obtain⟨wv,ew,hE⟩:=bind_some hE;obtain⟨ds,ecap,hE⟩:=bind_some hE;have nls:noLs ds=true:=Classical.byContradiction λz=>by rw[if_neg z] at hE;cases hE
  rw[if_pos nls] at hE;obtain⟨cvs,dcap,lcap,gcap⟩:=zNh ms ecap;refine wpAny_Call_Name_kw (zDG I (zCb LD.gl) mgg ?_ (zBt LD.okg).1);refine W.callWith_K (h₀:=base) I.ok.mod.kin kg ?_ (zAB LD.star) rfl;rw[zAB LD.star];show wpAny _ _ (spliced ((false,eval e _)::backTo cp (starEach [.Lambda L.params L.body L.scope lp] _))) _ _ s1;refine Calls.spliced_cons (thn (PE.nox (he cdv A outer s H E hr2) [] s1 O6 H1 (λy H2=>∃ O3,Kp H1 H2/\zAD K H2 (O++O2++O3) wv.2/\DenW K H2 (O++O2++O3) wv.1 y) I ⟨O++O2,sa.G,sa.M,wv,ms,ew,λv H2 O3 k2 c2 d2=>⟨O3,k2,c2,d2⟩⟩) λu0 s2 zz140=>?_);obtain⟨y,H2,I1,r1,O3,kp2,c2,dy⟩:=zz140;have kc:∀ {y:Str},y∈frN L->(zAA st).names.lookup y=some .cell:=λ{y} my=>by
   obtain⟨kk,hk,e⟩:=List.getElem_of_mem my;obtain⟨_,_,_,q⟩:=LD.cap kk y (by rw[getElem?_eq_getElem hk,e]);exact q
  obtain⟨cl,hcl,hcn,hcm⟩:=zC6 (cs:=(cxOf CX0 P w K mg base N x (zAA st) f cdv A outer s H E).env.cells) L.scope.names [] λp hp hf=>I1.ok.has p.1 (.inl (kc (LD.free p hp hf)))
  have hcn':cl.map (·.1)=frN L:=by rw[hcn];unfold frN;simp
  have hcm':∀ p∈cl,(cxOf CX0 P w K mg base N x (zAA st) f cdv A outer s H E).env.cells.lookup p.1=some p.2:=λp hp=>(hcm p hp).elim (λz=>absurd z (by simp)) id
  have hcd2:(cl.map (·.2)).Nodup:=zFe I1.ok.inj hcm' (by rw[hcn'];exact LD.nd);show wpAny _ _ (spliced ((false,eval (.Lambda L.params L.body L.scope lp) _)::backTo cp (starEach [] _))) _ _ s2;refine Calls.spliced_cons (zHS I1 (LD.dflt _) hcl ecode (e0.mod.codes x LD.lam c0 P0 etab) (I1.tabs x LD.lam c0 P0 etab) λf' c' ctv pm' oc' u1 H3 s3 sm nf hf hc' co I2=>?_);refine Calls.spliced_nil ⟨I2.kIn,?_⟩;have hS:∀ b∈cl.map (·.2),∃ y,(cxOf CX0 P w K mg base N x (zAA st) f cdv A outer s H E).env.cells.lookup y=some b:=λb z=>by
   obtain⟨p,hp,rfl⟩:=mem_map.mp z;exact⟨p.1,hcm' p hp⟩
  obtain⟨sm2,inn,out,big,e2⟩:=zMY I2 hS λ_=>rfl
  obtain⟨H4,eH4⟩:∃ H4:Hp,H4=zE2 H3 s3.heap (cl.map (·.2)):=⟨_,rfl⟩;rw[<- eH4] at sm2 inn out e2;have sm3:Same H2 H4:=sm.trans sm2;have cells:zBf H4 cl cvs:=by
   have lc:cl.length=cvs.length:=by
    have:=congrArg List.length hcn';rw[List.length_map] at this;rw[lcap,LD.len,this]
   refine zFn lc λkk p v' g1 g2=>?_
   have gy:(frN L)[kk]?=some p.1:=by rw[<- hcn',getElem?_map,g1];rfl
   obtain⟨i,ei,epi,eki⟩:=LD.cap kk p.1 gy;obtain⟨v2,gv,st2⟩:=gcap kk i ei;rw[g2] at gv;cases gv;obtain⟨mm,hn,hloc⟩:=I2.loc;obtain⟨uu,ru,lo⟩:=hloc i p.1 v' epi st2 (.inr (.inl eki));obtain⟨o,vv',k1,k2,k3⟩:=inn p.2 (mem_map.mpr ⟨p,mem_of_getElem? g1,rfl⟩);rcases lo with ⟨q,_⟩ | ⟨_,c2,e1,o2,ho2,hd2⟩
   .have q':(zAA st).names.lookup p.1=some .local:=q;rw[eki] at q';cases q'
   .rw [hcm' p (mem_of_getElem? g1)] at e1;cases e1;rw[k2] at ho2;cases ho2;exact⟨o,uu,k1,hd2,ru⟩
  have la:zDO H4 L f' cvs:=⟨cl,pm',c',ctv,oc',u1,by rw[LD.qual];exact sm2 _ _ hf,sm2 _ _ hc',by rw[LD.qual];exact co,hcn',hcd2,cells⟩;have dl:DenW K H4 (O++O2++O3) (.dat (.lam j L ds)) (.ref f'):=by
   rw[DenW];refine Den.fz (by rw[noL];exact nls) ?_;rw[Den];exact⟨f',cvs,rfl,la,dcap.mono (Same.trans kp2 (zBc.trans sm3))⟩
  have ru0:Vals [y,.ref f'] [u0,.ref f']:=.cons r1 (.cons rfl .nil);have dwl:DenWL K H4 (O++O2++O3) [wv.1,.dat (.lam j L ds)] [y,.ref f']:=.cons (dy.keep (zAq sm3)) (.cons dl .nil);have sp':spM K Fg [y,.ref f'] H4 Q E:=⟨O++O2++O3,wv.2,_,rr,c2.same sm3,dwl,hE,λv H' T k3 c3 d3=>fin v H' (O2++(O3++T)) (Same.trans kp1 (Same.trans kp2 (Same.trans (zAq sm3) k3))) (by rw[<- qJ,<- qJ];exact c3) (by rw[<- qJ,<- qJ];exact d3)⟩;have hl2:([u0,.ref f']:List Value).length=psg.length:=by rw[<- ru0.length];exact gg.len _ _ _ _ sp'
  have bt:=bg s3 [u0,.ref f'] I2.kIn (by simpa using hl2);refine wpAny_call (codeAny_mono (gg.run _ _ s3 H4 _ _ _ Q E hr2 e2 bt (by simpa using ru0) sp') λr' s' hq=>?_);cases r' with
  | error e=>exact hq.elim
  | ok fl =>
   cases fl with
   | ret u =>
    obtain⟨v,H',os,bare,un,hok',rv,q⟩:=hq;exact⟨v,H',os.trans I2.os,bare,zNq I2.base big (le_refl _) sm2 out un,hok',rv,q⟩
   | next=>exact False.elim hq
   | brk=>exact False.elim hq
   | cont=>exact False.elim hq
 have last:∀ (sa:Mst) (s1:Shared) (O6:St) (H1:Hp) (O2:List CA),Inv (cxOf CX0 P w K mg base N x (zAA st) f cdv A outer s H E) [] O6 H1 s1->MS K H1 (O++O2) sa.M O6 sa.G->Kp H H1->retM (lamE Fg j L ix ge) sa=some o ->
   wpAny (model P w) (cxOf CX0 P w K mg base N x (zAA st) f cdv A outer s H E).A (execs [.Return (some (.Call (.Name g q1) [e,.Lambda L.params L.body L.scope lp] [] cp)) rp] (cxOf CX0 P w K mg base N x (zAA st) f cdv A outer s H E).env) (λfl s'=>∃ u,fl=.ret u/\CE outer P w H s Q u s') (cxOf CX0 P w K mg base N x (zAA st) f cdv A outer s H E).xe s1:=by
  intro sa s1 O6 H1 O2 I ms kp1 hE;obtain⟨r1,er,hE⟩:=bind_some hE;cases hE;cases hF;refine wpAny_execs_cons (wpAny_Return_some (thn (key sa s1 O6 H1 O2 I ms kp1 er) λu s' h=>?_));exact⟨u,rfl,h⟩
 have hex:wpAny (model P w) (cxOf CX0 P w K mg base N x (zAA st) f cdv A outer s H E).A (execs (zAF st) (cxOf CX0 P w K mg base N x (zAA st) f cdv A outer s H E).env) (λfl s'=>∃ u,fl=.ret u/\CE outer P w H s Q u s') (cxOf CX0 P w K mg base N x (zAA st) f cdv A outer s H E).xe s1:=by
  rw[eb];rcases hpre with ⟨rfl,rfl⟩ | ⟨st1,rfl,hs1⟩
  .cases eo1;exact last _ s1 _ H [] I (by rw[append_nil];exact ms0) (Kp.refl H) eo2
  .show wpAny _ _ (execs (st1::[_]) _) _ _ s1;have hb1:=PS.nox (hs1 cdv A outer s H E hr2 H O) [] s1 (zB8 N vs) H { nx:=λO6 H1=>∃ sa O2,MS K H1 (O++O2) sa.M O6 sa.G/\Kp H H1/\retM (lamE Fg j L ix ge) sa=some o,rt:=λ_ _=>False } I ⟨[],⟨_,M⟩,o1,by rw[append_nil];exact ms0,Kp.refl H,eo1,by
    cases o1 with
    | nx sa=>exact λO2 O6 H1 m k=>⟨sa,O2,m,k,eo2⟩
    | rt r1=>cases eo2
    | bk _=>cases eo2
    | ct _=>cases eo2⟩
   refine wpAny_execs_cons (thn hb1 λfl s2 q=>?_);cases fl with
   | next =>
    obtain⟨O6,H1,I1,sa,O2,m,k,e⟩:=q;exact last sa s2 O6 H1 O2 I1 m k e
   | brk=>obtain⟨_,_,_,q⟩:=q;exact q.elim
   | cont=>obtain⟨_,_,_,q⟩:=q;exact q.elim
   | ret u=>obtain⟨_,_,_,_,_,q⟩:=q;exact q.elim
 refine wpAny_mono hex (λfl s' zz141=>?_) λe s' hs=>hs
 obtain⟨u,e,h⟩:=zz141;subst e;exact h
noncomputable def zSw (x:Str)(s:Stmt):LamI:=match s with
 | .Return (some (.Call _ [_,.Lambda a b c _] _ _)) _=>⟨x ++ ".<locals>." ++ "<lambda>",a,b,c⟩
 | s=>⟨x,zAg s,.Name x ⟨0,0,0,0⟩,zAA s⟩
noncomputable def zRA (x:Str)(st:Stmt):LamI:=zSw x ((zAF st).getLast?.getD (.Pass ⟨0,0,0,0⟩))
noncomputable def zHT (st:Stmt):Expr:=match (zAF st).getLast?.getD (.Pass ⟨0,0,0,0⟩) with
 | .Return (some (.Call _ [e,_] _ _)) _=>e
 | _=>.Name "" ⟨0,0,0,0⟩
noncomputable def lamB (x:Str)(ys:List Str)(L:LamI):Bool:=(L.scope.kind==.function)&&!L.scope.isCoroutine&&!L.scope.isGenerator&&decide (x::ys).Nodup&&(L.scope.names.lookup x==some .local)&&ys.all (λy=>L.scope.names.lookup y==some .free)&&L.scope.names.all (λp=>!(p.2==.free)||ys.contains p.1)&&L.scope.names.all (λp=>!(p.2==.cell))&&decide (frN L=ys)
theorem zFD (h:lamB x ys L=true)(a:∀ cl pm c ctv u,bindArgs (W.kla_fn "<lambda>" L.qual L.params L.body L.scope cl pm c ctv) ⟨[u],[]⟩=pure [(x,u)]):zGS x ys L/\frN L=ys:=by
 unfold lamB at h;simp only[yx,Bool.not_eq_true',qy,all_eq_true,Bool.or_eq_true,beq_iff_eq,List.contains_iff_mem,beq_eq_false_iff_ne] at h;obtain⟨⟨⟨⟨⟨⟨⟨⟨d,b⟩,h3⟩,h4⟩,h5⟩,h6⟩,h7⟩,h8⟩,h9⟩:=h;refine⟨⟨d,b,h3,h4,h5,h6,λy e=>?_,h8,a⟩,h9⟩;rcases h7 _ (PySem.mem_of_lookup e) with z | z
 .simp_all
 .omega
theorem zFN (L:LamI):∀ p∈L.scope.names,p.2=.free->p.1∈frN L:=λp b a=>by
 unfold frN;rw[List.mem_reverse];exact mem_map.mpr ⟨p,mem_filter.mpr ⟨b,by rw[a];rfl⟩,rfl⟩
noncomputable def capB (sc:Scope)(ps ys:List Str)(ix:List Nat):Bool:=decide (ix.length=ys.length)&&(List.range ys.length).all λk=>match ys[k]?,ix[k]? with
 | some y,some i=>decide (ps[i]?=some y)&&(sc.names.lookup y==some .cell)
 | _,_=>false
theorem zNi (h:capB sc ps ys ix=true):ix.length=ys.length/\∀ (k:Nat) y,ys[k]?=some y->∃ i,ix[k]?=some i/\ps[i]?=some y/\sc.names.lookup y=some .cell:=by
 unfold capB at h;rw[yx,qy,all_eq_true] at h;refine⟨h.1,λk y e=>?_⟩;have a:=(zzg e).1;have z:=h.2 k (mem_range.mpr a);have c:k < ix.length:=by rw[h.1];exact a
 have b:=getElem?_eq_getElem c;rw[e,b] at z;rw[yx,qy,beq_iff_eq] at z;exact⟨_,b,z.1,z.2⟩
noncomputable def cPre (sc:Scope)(N bs:List Str):MT->List Stmt->Bool
 | .nil,[]=>true
 | .cons a .nil,[s]=>cS' sc N bs a s
 | _,_=>false
def zKW (J:Gm)(B:Dm):MT->Mst->Option OutM
 | .cons a _=>evS' J B a
 | _=>λs=>some (.nx s)
section
variable {P:Program}{w:World}{K:W.Frag}{mg:Str->Option Value}{base:Heap}{k:Nat}{J:Gm}{B:Dm}{bs:List Str}
theorem zNN {st:Stmt}(d:DmOk P w K mg base k B)(q:GOk P w K mg base k J bs)(F:Fun K nm x st f fd)(sc:zAV N ps (zAA st))(i:zEm K x st f N pre e g L ix)
  (h:cPre (zAA st) N bs mp pre=true) (v:cM me (zAA st) N bs e=true) (mem:(g,Fg)∈B) (l:spec.lookup g=none):FnOk P w K mg base CX0 (k+1) f fd ps (spM K (lamM Fg j L ix ps.length N.length (zKW J B mp) (evM J B me))):=by
 have D:=d g Fg mem;rw[l] at D;obtain⟨y,t,m,u,n,r,p⟩:=D;have o:∀ cdv A a s H E,Room k _->XOkM (cxOf CX0 P w K mg base N x (zAA st) f cdv A a s H E).nox k J B bs:=λcdv A a s H E c=>⟨⟨q,c,rfl,sc.nd,PassesOwn.never⟩,d⟩
 refine zOk F sc i ?_ (λcdv A a s H E c=>(zAk (o cdv A a s H E c) me).e _ v) u n r p;unfold cPre at h;split at h
 .exact .inl ⟨rfl,rfl⟩
 .exact .inr ⟨_,rfl,λcdv A a s H E c=>(zDp (o cdv A a s H E c) (λ_=>rfl) _).1 _ h⟩
 .cases h
theorem DmOk.addF {st:Stmt}(d:DmOk P w K mg base k B)(h:GOk P w K mg base k J bs)(F:Fun K x x st f fd)(sc:zAV N ps (zAA st))(b:zEm K x st f N pre e g L ix)
  (c:cPre (zAA st) N bs mp pre=true) (n:cM me (zAA st) N bs e=true) (m:mg x=some (.ref f)) (i:zBJ K fd ps []) (mem:(g,Fg)∈B) (a:spec.lookup g=none:=by walk_at "k") (l:spec.lookup x=none:=by walk_at "k") :
  DmOk P w K mg base (k+1) (B.add x (lamM Fg j L ix ps.length N.length (zKW J B mp) (evM J B me))):=d.one (Nat.le_succ k) (by rw[l];exact⟨f,fd,ps,zNN d h F sc b c n mem a,m,F.kp,i⟩)
theorem DmOk.addFM {st:Stmt}(d:DmOk P w K mg base k B)(p:GOk P w K mg base k J bs)(F:Fun K nm x st f fd)(sc:zAV N ps (zAA st))(l:zEm K x st f N pre e g L ix)
  (b:cPre (zAA st) N bs mp pre=true) (o:cM me (zAA st) N bs e=true) (n:zBJ K fd ps []) (mem:(g,Fg)∈B) (a:zAp K c C) (i:Cls K C) (q:Meth K C m f) (h:spec.lookup x=some (.mth c m)) (r:spec.lookup g=none:=by walk_at "k") :
  DmOk P w K mg base (k+1) (B.add x (lamM Fg j L ix ps.length N.length (zKW J B mp) (evM J B me))):=d.one (Nat.le_succ k) (by rw[h];exact⟨C,f,fd,ps,a,i,q,zNN d p F sc l b o mem r,n⟩)
end
theorem tabs_of {K:W.Frag}{tl:List (Str×Addr×Addr)}(c:tabQ K "thinned_covers"=tl.lookup ("thinned_covers":Str))(d:tabQ K "Fill.films"=tl.lookup ("Fill.films":Str))(b:tabQ K "Join.films"=tl.lookup ("Join.films":Str))(e:tabQ K "Group.films"=tl.lookup ("Group.films":Str))(f:tabQ K "Picture.renew"=tl.lookup ("Picture.renew":Str)):∀ x∈zBe,tabQ K x=tl.lookup x:=by
 intro x a;simp only[zBe,mem_cons,not_mem_nil,or_false] at a;rcases a with rfl | rfl | rfl | rfl | rfl
 .exact c
 .exact d
 .exact b
 .exact e
 .exact f
noncomputable def prsW:List W->Option (List (Int×Int))
 | []=>some []
 | w::ws=>match w with
  | .tup [d,_]=>(kI d).bind λks=>match ks with
   | [i,j]=>(prsW ws).map λl=>(i,j)::l
   | _=>none
  | _=>none
noncomputable def zEN (p:Int×Int):W:=.tup [.dat (.int p.1),.dat (.int p.2)]
noncomputable def zDq (t:Mst->Option MR):Mst->Option MR:=λs=>(t s).bind λx=>match x.1 with
 | .di true n=>(x.2[n]?).bind λws=>(prsW ws).bind λps=>if ps.length<=6 then some (.loc x.2.length,x.2++[(ordP (ps.map Prod.swap)).map λi=>zEN (ps.getD i (0,0))]) else none
 | _=>none
theorem zRC {K:W.Frag}:∀ {ws:List W} {kvs:List (List Key×V)} {ps:List (Int×Int)},zBI K H O encT ws kvs->prsW ws=some ps->kvs.map (·.1)=ps.map (λp=>[Sum.inl p.1,Sum.inl p.2])
 | [],_,_,h,e=>by cases h;cases e;rfl
 | w::ws,_,_,⟨d,ks,k,u,v,r,h1,h2,h3,h4,h5,h6⟩,e=>by
  subst h1 h4;unfold prsW at e;dsimp only at e;rw[h2] at e;replace e:(match ks with
   | [i,j]=>(prsW ws).map λl=>(i,j)::l
   | _=>none)=some _:=e
  split at e
  .obtain ⟨l,e1,rfl⟩:=yj.mp e;cases h3;rw[map_cons,map_cons,zRC h6 e1]
  .cases e
theorem zFm {K:W.Frag}(pb:zMv H bs ps):∀ {l:List Nat},(∀ i∈l,i < ps.length)->DenWL K H O (l.map λi=>zEN (ps.getD i (0,0))) (l.map λi=>V.ref (bs.getD i 0))
 | [],_=>rfl
 | i::l,h=>by
  have hi:=h i (.head _);have hb:i < bs.length:=by rw[pb.1];exact hi
  refine⟨_,_,rfl,?_,zFm pb λj z=>h j (.tail _ z)⟩;have e1:ps[i]?=some (ps.getD i (0,0)):=by simp[hi]
  have e2:bs[i]?=some (bs.getD i 0):=by simp[hb]
  unfold zEN;rw[DenW];refine⟨_,_,rfl,zKE (pb.2 i _ _ e2 e1),?_⟩;exact⟨_,_,rfl,(by rw[DenW,Den]),_,_,rfl,(by rw[DenW,Den]),rfl⟩
section
variable {X:Cx}
theorem zMC (K:X.calm=true)(hg:Gl X "sorted")(hm:X.mg "sorted"=none)(he:GM X e t)(E:starEach [e] X.env=[(false,eval e X.env)])
  (LR:zC9 X.prog X.w X.K X.mg X.base k L F) (hr:Room (k+2) X.A) (hF:∀ i j:Int,F [.tup [.int i,.int j]]=some (.tup [.int j,.int i],.cl))
  (U:L.params=params/\L.body=body/\L.scope=scope/\L.qual=X.env.qual++Str.ofString "<lambda>") (a6:frN L=[]) (a0:defaultsOf params X.env=([],[])) (a7:clos scope.names X.env.cells []=some []) (J:X.env.code=.ref c)
  (hx:xq∈zBe) (a1:tabQ X.K xq=some (c,P)) (B:lamQ xq=X.env.qual++Str.ofString "<lambda>") :
  GM X (.Call (.Name "sorted" p) [e] [⟨some "key",.Lambda params body scope lpos,kp⟩] pos) (zDq t):=by
 intro S s σ H Q I ⟨O,G,M,r,ms,d,cq⟩;unfold zDq at d;obtain⟨x,ex,d⟩:=bind_some d;split at d
 .rename_i n en;obtain⟨ws,ew,d⟩:=bind_some d;obtain⟨ps,ep,d⟩:=bind_some d;by_cases l6:ps.length<=6
  .rw [if_pos l6] at d;cases d;refine wpAny_Call_Name_kw (zCa I hg hm boot_sorted ?_ (by decide) (by decide));refine callWith_kw ?_ ?_ ?_ (by rfl) (by rfl)
   .refine thn (zAR he zAs E pos S s σ H (λvs m=>∃ v T,vs=[v]/\Kp H m/\zAD X.K m (O++T) x.2/\DenW X.K m (O++T) x.1 v) I ⟨O,G,M,x,ms,ex,λv m T k1 Z d1=>⟨v,T,rfl,k1,Z,d1⟩⟩) λus s1 y=>?_
    obtain⟨vs,m,I1,rv,v,T,b3,k1,Z,d1⟩:=y;subst b3;obtain⟨u,rfl,ru⟩:=zFa rv;rw[en,DenW] at d1;obtain⟨a,ha,rfl⟩:=d1;cases ru;obtain⟨kvs,h1,h2⟩:=Z.cell' ha ew;refine kws_cons (zHS I1 a0 a7 J (I1.ok.mod.codes xq hx c P a1) (by rw[<- B];exact I1.tabs xq hx c P a1) λf c' a9 pm oc u1 H2 s2 C d0 b1 b6 a5 I2=>kws_nil ?_);show wpAny _ _ (call (.builtin "sorted") [.ref a] [(Str.ofString "key",.ref f)]) _ _ _;refine zIp (g:=Prod.swap) (kvs:=kvs) (ps:=ps) K I2 (C _ _ h1) (zRC h2 ep) l6 (λpins' s3 H3 b w I3 Y hb=>?_) λD s' N bs pb I' l n'=>?_
    .have la:zDO H3 L f []:=⟨[],pm,c',a9,oc,u1,by rw[U.1,U.2.1,U.2.2.1,U.2.2.2];exact Y _ _ b1,Y _ _ b6,by rw[U.2.2.2];exact a5,by rw[a6];rfl,List.nodup_nil,.nil⟩;have h:=I3.env0;refine wpAny_call (codeAny_mono (LR X.A.in1.in1 X.stack s3 H3 f [] [] (.ref b) (.ref b) (.tup [.int w.1,.int w.2]) _ (λv' N=>∃ c,v'=.ref c/\Same H3 N/\SqT X.K N c [.int w.2,.int w.1]) E0 hr.in1.in1
      ⟨h.frames,h.mod,h.bs,h.bsz,h.funs,h.frf,h.hok,h.bare,h.tree,h.tabs⟩ la .nil rfl (by
       rw[Den];exact⟨b,_,rfl,SqT.of hb,.cons (by rw[Den]) (.cons (by rw[Den]) .nil)⟩) (hF w.1 w.2) (λz=>nomatch z) λv' N A r4=>?_) λrr s' B=>?_)
     .have d4:Den X.K (hide N []) (.tup [.int w.2,.int w.1]) v':=r4;rw[zBm,Den] at d4;obtain⟨c4,h4,rfl,sq,dl⟩:=d4;obtain⟨v1,f7,rfl,g1,v2,g5,rfl,g3,g4⟩:=dl;cases g4;rw[Den] at g1 g3;subst g1 g3;exact⟨c4,rfl,A,sq⟩
     .cases rr with
      | error e=>exact B.elim
      | ok fl =>
       cases fl with
       | ret u =>
        obtain⟨v4,H4,I4,r4,c4,rfl,A,sq⟩:=I3.after B;obtain rfl:u=Value.ref c4:=r4;exact⟨c4,H4,rfl,I4,A,sq⟩
       | next=>exact False.elim B
       | brk=>exact False.elim B
       | cont=>exact False.elim B
    .have nD:m D=none:=by
      cases q:m D with
      | none=>rfl
      | some o=>have:=l _ _ (C _ _ q);rw[n'] at this;cases this
     have sA:Same m (upd N D (.lst ((ordP (ps.map Prod.swap)).map λi=>V.ref (bs.getD i 0)))):=λb o q=>by
      rw[zAI (λz=>by rw[z,nD] at q;cases q)];exact l _ _ (C _ _ q)
     have o2:=(zJA (ps:=ps.map Prod.swap) (by rw[List.length_map];exact l6)).2;rw[List.length_map] at o2;refine⟨.ref D,_,I',rfl,cq _ _ (T++[(D,.lst)]) (k1.trans (zAq sA)) (by
      rw[<- qJ];refine Z.new sA nD zAJ (zFm ⟨pb.1,λj c p q1 q2=>?_⟩ o2);rw[zAI (λz=>by
       have:=l _ _ (pb.2 j c p q1 q2);rw[z,n'] at this;cases this)]
      exact l _ _ (pb.2 j c p q1 q2)) (by rw[<- qJ];exact zFA Z)⟩
   .rw [E];rfl
   .rw [E];rfl
  .rw [if_neg l6] at d;cases d
 .cases d
end
structure zG6 (K:W.Frag)(x:Str)(st:Stmt)(f:Addr)(y:Str)(e:Expr)(rest:List Stmt)(L:LamI):Prop where
 body:∃ p1 p2 lp kp cp ap,zAF st=.Assign [.Name y p1] (.Call (.Name "sorted" p2) [e] [⟨some "key",.Lambda L.params L.body L.scope lp,kp⟩] cp) ap::rest
 star:zAX e=true
 qual:L.qual=x ++ ".<locals>." ++ "<lambda>"
 lam:x∈zBe
 fnq:zER K x=some f
 tab:∃ c P,tabQ K x=some (c,P)
 dflt:∀ env,defaultsOf L.params env=([],[])
 nofr:frN L=[]
section
variable {P:Program}{w:World}{K:W.Frag}{mg:Str->Option Value}{base:Heap}{k:Nat}{J:Gm}{B:Dm}{bs:List Str}
def zIl (J:Gm)(B:Dm)(i:Nat)(me:ME)(mr:MT):Mst->Option OutM:=seqM (setM i (zDq (evM J B me))) (evSs' J B mr)
theorem zIR {st:Stmt}(F:Fun K nm x st f fd)(S:zAV N ps (zAA st))(z:zG6 K x st f y e rest L)(vy:varB (zAA st) N i y=true)(bl:bltB (zAA st) bs "sorted"=true)
  (ce:cM me (zAA st) N bs e=true) (ck:cSs' (zAA st) N bs mr rest=true) (g:GOk P w K mg base k J bs) (d:DmOk P w K mg base k B) (LR:zC9 P w K mg base j L FL) (jk:j+2<=k) (t:∀ a b:Int,FL [.tup [.int a,.int b]]=some (.tup [.int b,.int a],.cl)) :
  FnOk P w K mg base CX0 (k+1) f fd ps (spM K (zAv ps.length N.length (zIl J B i me mr))):=by
 obtain⟨oc,od,kV,a6,pm,an,u,ct,a9,rfl,lk,W⟩:=F.ex;obtain⟨c0,P0,C⟩:=z.tab;have D:u=.ref c0:=zFc C z.fnq lk;have G:∀ (A:Around) (l:List Env) (s:Shared) (H:Hp) (E:XK),Room k (A.deeper (envOfC x (zAA st) s.heap.objs.size f u))->GSsM (cxOf CX0 P w K mg base N x (zAA st) f u A l s H E).nox (zAF st) (zIl J B i me mr):=λA l s H E Y=>by
  have o:XOkM (cxOf CX0 P w K mg base N x (zAA st) f u A l s H E).nox k J B bs:=⟨⟨g,Y,rfl,S.nd,PassesOwn.never⟩,d⟩;obtain⟨p1,p2,lp,kp,cp,ap,hb⟩:=z.body;rw[hb];obtain⟨v1,v2,_⟩:=zBO vy;obtain⟨g1,g2⟩:=zBC o.x bl;obtain⟨cl,Z,V,_⟩:=zC6 (cs:=(cxOf CX0 P w K mg base N x (zAA st) f u A l s H E).nox.env.cells) L.scope.names [] λp hp hf=>absurd (zFN L p hp hf) (by rw[z.nofr];simp)
  have I:cl=[]:=by
   have:cl.map (·.1)=frN L:=by rw[V];unfold frN;simp
   rw[z.nofr] at this;exact List.map_eq_nil_iff.mp this
  subst I;exact zBS (zFJ S.nd v1 v2 (zMC (X:=(cxOf CX0 P w K mg base N x (zAA st) f u A l s H E).nox) (k:=j) rfl g1 g2 ((zAk o me).e _ ce) (zAB z.star) LR (o.x.room.mono jk) t ⟨rfl,rfl,rfl,z.qual⟩ z.nofr (z.dflt _) Z D z.lam C rfl) rfl (.inl rfl)) ((zDp o (λ_=>rfl) mr).2 _ ck)
 refine zML lk W S (λvs H Q E h=>?_) λA l s H vs Q E Y h=>?_
 .obtain ⟨O,M,U,r,c,d,t,n⟩:=h;unfold zAv at t;by_cases q:U.length=ps.length/\ps.length<=N.length
  .rw [<- d.length];exact q.1
  .rw [if_neg q] at t;cases t
 obtain⟨O,M,U,r,c,d,t,n⟩:=h;refine⟨_,PSs.nox (G A l s H E Y H O),?_⟩;unfold zAv at t;by_cases q:U.length=ps.length/\ps.length<=N.length
 .rw [if_pos q] at t;obtain⟨o,eo,t⟩:=bind_some t;rw[<- q.1] at eo;refine⟨[],_,o,by rw[append_nil];exact zDi c d (by rw[q.1];exact q.2),Kp.refl H,eo,?_⟩;cases o with
  | nx s' =>
   cases t;exact λT O1 R m k=>n _ R T k m.cells (by rw[DenW,Den])
  | rt r' =>
   cases t;exact λT v R c' d' k=>n v R T k c' d'
  | bk _=>cases t
  | ct _=>cases t
 .rw [if_neg q] at t;cases t
theorem DmOk.addSM {st:Stmt}(d:DmOk P w K mg base k B)(g:GOk P w K mg base k J bs)(F:Fun K nm x st f fd)(S:zAV N ps (zAA st))(r:zG6 K x st f y e rest L)(p:varB (zAA st) N i y=true)(bl:bltB (zAA st) bs "sorted"=true)
  (v:cM me (zAA st) N bs e=true) (l:cSs' (zAA st) N bs mr rest=true) (u:zC9 P w K mg base j L FL) (q:j+2<=k) (o:∀ a b:Int,FL [.tup [.int a,.int b]]=some (.tup [.int b,.int a],.cl)) (s:zBJ K fd ps []) (t:zAp K c C) (n:Cls K C) (z:Meth K C m f) (h:spec.lookup x=some (.mth c m)) :
  DmOk P w K mg base (k+1) (B.add x (zAv ps.length N.length (zIl J B i me mr))):=d.one (Nat.le_succ k) (by rw[h];exact⟨C,f,fd,ps,t,n,z,zIR F S r p bl v l g d u q o,s⟩)
end
noncomputable def zRB (x:Str)(s:Stmt):LamI:=match s with
 | .Assign _ (.Call _ _ [⟨_,.Lambda a b c _,_⟩] _) _=>⟨x ++ ".<locals>." ++ "<lambda>",a,b,c⟩
 | s=>⟨x,zAg s,.Name x ⟨0,0,0,0⟩,zAA s⟩
noncomputable def zQ9 (x:Str)(st:Stmt):LamI:=zRB x ((zAF st).headD (.Pass ⟨0,0,0,0⟩))
noncomputable def zIm (st:Stmt):Expr:=match (zAF st).headD (.Pass ⟨0,0,0,0⟩) with
 | .Assign _ (.Call _ [e] _ _) _=>e
 | _=>.Name "" ⟨0,0,0,0⟩
noncomputable def scB (N P:List Str)(sc:Scope):Bool:=(sc.kind==.function)&&!sc.isCoroutine&&!sc.isGenerator&&decide N.Nodup&&decide (N.take P.length=P)&&P.all (λx=>sc.names.lookup x==some .local||sc.names.lookup x==some .cell)&&sc.names.all λy=>!(y.2==.free)
theorem zHB (h:scB N P sc=true):zAV N P sc:=by
 unfold scB at h;simp only[yx,Bool.not_eq_true',qy,all_eq_true,Bool.or_eq_true,beq_iff_eq,beq_eq_false_iff_ne] at h;obtain⟨⟨⟨⟨⟨⟨b,a⟩,h3⟩,h4⟩,h5⟩,h6⟩,h7⟩:=h;exact⟨b,a,h3,h4,h5,h6,h7⟩
noncomputable def dB (st:Stmt)(n:Nat)(N bs:List Str)(b:S):Bool:=scB N (N.take n) (zAA st)&&cSs (zAA st) N bs b (zAF st)
noncomputable def dM (st:Stmt)(n:Nat)(N bs:List Str)(b:MT):Bool:=scB N (N.take n) (zAA st)&&cSs' (zAA st) N bs b (zAF st)
structure FT (K:W.Frag)(x:Str)(st:Stmt)(f:Addr):Prop where
 a:W.nsIn K mainGlobals x=some (some (.ref f))
 F:∃ fd,Fun K x x st f fd
theorem ft {K:W.Frag}{st:Stmt}{kV:Value}(a:W.nsIn K mainGlobals x=some (some (.ref f)))(l:K.lookup f=some ⟨oc,od,.func (W.fnOf x x (zAg st) (zAF st) (zAA st) .none kV dc pm an cd ct),sl⟩)(c:W.codeIn K cd x=true)(k:W.keepIn K (.ref f)=true):FT K x st f:=⟨a,_,zKH l c k⟩
def bO (x q:Str)(st:Stmt)(ps:List Str):Prop:=∀ (kV doc pm:Value) (an:Option Addr) (cdv ct:Value) (us:List Value),us.length=ps.length->bindArgs (W.fnOf x q (zAg st) (zAF st) (zAA st) .none kV doc pm an cdv ct) ⟨us,[]⟩=pure (ps.zip us)
theorem bz0 {st:Stmt}(a:ps.length=0)(h:∀ {kV doc pm:Value} {an:Option Addr} {cdv ct:Value},bindArgs (W.fnOf x q (zAg st) (zAF st) (zAA st) .none kV doc pm an cdv ct) ⟨[],[]⟩=pure (ps.zip [])):bO x q st ps:=λ_ _ _ _ _ _ us b=>by cases List.eq_nil_of_length_eq_zero (b.trans a);exact h
theorem bz1 {st:Stmt}(hp:ps.length=1)(h:∀ {kV doc pm:Value} {an:Option Addr} {cdv ct a:Value},bindArgs (W.fnOf x q (zAg st) (zAF st) (zAA st) .none kV doc pm an cdv ct) ⟨[a],[]⟩=pure (ps.zip [a])):bO x q st ps:=λ_ _ _ _ _ _ us hl=>by replace hl:=hl.trans hp;(iterate 1 rcases us with _|⟨_,us⟩;cases hl;replace hl:=Nat.succ.inj hl);cases List.eq_nil_of_length_eq_zero hl;exact h
theorem bz2 {st:Stmt}(d:ps.length=2)(h:∀ {kV doc pm:Value} {an:Option Addr} {cdv ct a b:Value},bindArgs (W.fnOf x q (zAg st) (zAF st) (zAA st) .none kV doc pm an cdv ct) ⟨[a,b],[]⟩=pure (ps.zip [a,b])):bO x q st ps:=λ_ _ _ _ _ _ us c=>by replace c:=c.trans d;(iterate 2 rcases us with _|⟨_,us⟩;cases c;replace c:=Nat.succ.inj c);cases List.eq_nil_of_length_eq_zero c;exact h
theorem bz3 {st:Stmt}(e:ps.length=3)(h:∀ {kV doc pm:Value} {an:Option Addr} {cdv ct a b c:Value},bindArgs (W.fnOf x q (zAg st) (zAF st) (zAA st) .none kV doc pm an cdv ct) ⟨[a,b,c],[]⟩=pure (ps.zip [a,b,c])):bO x q st ps:=λ_ _ _ _ _ _ us d=>by replace d:=d.trans e;(iterate 3 rcases us with _|⟨_,us⟩;cases d;replace d:=Nat.succ.inj d);cases List.eq_nil_of_length_eq_zero d;exact h
theorem bz4 {st:Stmt}(f:ps.length=4)(h:∀ {kV doc pm:Value} {an:Option Addr} {cdv ct a b c d:Value},bindArgs (W.fnOf x q (zAg st) (zAF st) (zAA st) .none kV doc pm an cdv ct) ⟨[a,b,c,d],[]⟩=pure (ps.zip [a,b,c,d])):bO x q st ps:=λ_ _ _ _ _ _ us e=>by replace e:=e.trans f;(iterate 4 rcases us with _|⟨_,us⟩;cases e;replace e:=Nat.succ.inj e);cases List.eq_nil_of_length_eq_zero e;exact h
theorem bz5 {st:Stmt}(f:ps.length=5)(h:∀ {kV doc pm:Value} {an:Option Addr} {cdv ct a b c d e:Value},bindArgs (W.fnOf x q (zAg st) (zAF st) (zAA st) .none kV doc pm an cdv ct) ⟨[a,b,c,d,e],[]⟩=pure (ps.zip [a,b,c,d,e])):bO x q st ps:=λ_ _ _ _ _ _ us g=>by replace g:=g.trans f;(iterate 5 rcases us with _|⟨_,us⟩;cases g;replace g:=Nat.succ.inj g);cases List.eq_nil_of_length_eq_zero g;exact h
section
variable {P:Program}{w:World}{K:W.Frag}{mg:Str->Option Value}{base h:Heap}{k:Nat}{J:Gm}{B:Dm}{bs:List Str}{x:Str}{st:Stmt}{f:Addr}{N ps:List Str}{n:Nat}
theorem GOk.addT (g:GOk P w K mg base k J bs)(X:K.In h)(G:h.Ns mainGlobals mg)(t:FT K x st f)(a:dB st n N bs b=true)(c:bO x x st (N.take n)):GOk P w K mg base (k+1) (J.add x (dFun (N.take n).length N.length (evSs J b))) bs :=
 let ⟨_,E⟩:=t.F;g.add E (zHB (Bool.and_eq_true_iff.mp a).1) (Bool.and_eq_true_iff.mp a).2 (W.mg_of X G t.a) (E.binds c)
theorem DmOk.addT (d:DmOk P w K mg base k B)(g:GOk P w K mg base k J bs)(X:K.In h)(G:h.Ns mainGlobals mg)(t:FT K x st f)(a:dM st n N bs b=true)(e:bO x x st (N.take n))(c:spec.lookup x=none:=by walk_at "k"):DmOk P w K mg base (k+1) (B.add x (zAv (N.take n).length N.length (evSs' J B b))) :=
 let ⟨_,E⟩:=t.F;d.add g E (zHB (Bool.and_eq_true_iff.mp a).1) (Bool.and_eq_true_iff.mp a).2 (W.mg_of X G t.a) (E.binds e) c
theorem GOk.aT (n:Nat)(N:List Str)(g:GOk P w K mg base k J bs)(X:K.In h)(G:h.Ns mainGlobals mg)(t:FT K x st f)(c:dB st n N bs b=true:=by walk_at "k")(a:bO x x st (N.take n):=by walk_at "b"):GOk P w K mg base (k+1) (J.add x (dFun (N.take n).length N.length (evSs J b))) bs:=g.addT X G t c a
theorem GOk.aU (N:List Str)(g:GOk P w K mg base k J bs)(X:K.In h)(G:h.Ns mainGlobals mg)(t:FT K x st f)(hb:bO x x st N:=by walk_at "b"):GOk P w K mg base k (J.add x (λ_=>none)) bs :=
 let ⟨_,E⟩:=t.F;g.addN E (W.mg_of X G t.a) (E.binds hb)
theorem DmOk.aT {b:MT}{j:Nat}(n:Nat)(N:List Str)(d:DmOk P w K mg base k B)(g:GOk P w K mg base j J bs)(X:K.In h)(G:h.Ns mainGlobals mg)(t:FT K x st f)(a:j<=k:=by decide)(e:dM st n N bs b=true:=by walk_at "k")(i:bO x x st (N.take n):=by walk_at "b")(c:spec.lookup x=none:=by walk_at "k"):DmOk P w K mg base (k+1) (B.add x (zAv (N.take n).length N.length (evSs' J B b))):=d.addT (g.mono a) X G t e i c
end
section
variable {P:Program}{w:World}{K:W.Frag}{mg:Str->Option Value}{base:Heap}{k:Nat}{J:Gm}{B:Dm}{bs:List Str}{m q c:Str}{st:Stmt}{C f:Addr}{N:List Str}{n:Nat}
structure FQ (K:W.Frag)(C f:Addr)(m q:Str)(st:Stmt):Prop where
 M:Meth K C m f
 F:∃ fd,Fun K m q st f fd
theorem fq {kV:Value}(a:W.findIn K (.ref C) m=some (some (.ref f)))(i:W.isFn K (.ref f)=true)(l:K.lookup f=some ⟨oc,od,.func (W.fnOf m q (zAg st) (zAF st) (zAA st) .none kV dc pm an cd ct),sl⟩)(c:W.codeIn K cd q=true)(k:W.keepIn K (.ref f)=true):FQ K C f m q st:=⟨⟨a,i,k⟩,_,zKH l c k⟩
theorem DmOk.addQ (d:DmOk P w K mg base k B)(g:GOk P w K mg base k J bs)(t:FQ K C f m q st)(j:zAp K c C)(i:Cls K C)(a:dM st n N bs b=true)(e:bO m q st (N.take n))(h:spec.lookup q=some (.mth c m)):DmOk P w K mg base (k+1) (B.add q (zAv (N.take n).length N.length (evSs' J B b))) :=
 let ⟨_,E⟩:=t.F;d.addM g E (zHB (Bool.and_eq_true_iff.mp a).1) (Bool.and_eq_true_iff.mp a).2 (E.binds e) j i t.M h
theorem DmOk.aQ {b:MT}{j:Nat}(n:Nat)(N:List Str)(d:DmOk P w K mg base k B)(g:GOk P w K mg base j J bs)(t:FQ K C f m q st)(o:zAp K c C)(h:Cls K C)(l:j<=k:=by decide)(e:dM st n N bs b=true:=by walk_at "k")(i:bO m q st (N.take n):=by walk_at "b")(a:spec.lookup q=some (.mth c m):=by walk_at "k"):DmOk P w K mg base (k+1) (B.add q (zAv (N.take n).length N.length (evSs' J B b))):=d.addQ (g.mono l) t o h e i a
structure UC (K:W.Frag)(c:Str)(C:Addr)(ns:List Str):Prop where
 a:zAp K c C
 c:Cls K C
 k:W.makesIn K C=true
 kc:W.keepIn K (.ref C)=true
 n:∀ n∈ns,zBM K C n
theorem nf0:∀ n∈([]:List Str),zBM K C n:=by simp
theorem nfc (h:W.findIn K (.ref C) x=some none)(t:∀ n∈ns,zBM K C n):∀ n∈x::ns,zBM K C n:=λn a=>by
 cases a with
 | head=>exact h
 | tail _ a=>exact t n a
theorem uc (a:W.nsIn K mainGlobals c=some (some (.ref C)))(g:W.plainGet K C Str.empty=true)(b:W.hasDictIn K C=true)(d:W.plainOver K C=true)(e:W.findIn K (.ref C) "__setattr__"=some (some (.builtin "object.__setattr__")))(mk:W.makesIn K C=true)(f:W.keepIn K (.ref C)=true)(n:∀ n∈ns,zBM K C n):UC K c C ns:=⟨a,⟨g,b,d,e⟩,mk,f,n⟩
theorem UC.o (u:UC K c C ns)(h:x∈ns):∀ C',zAp K c C'->Cls K C'/\zBM K C' x:=λ_ q=>by
 obtain rfl:=zEG u.a q;exact⟨u.c,u.n x h⟩
end
theorem zPf :evM J B (.pur e)=zDz (evE J e):=rfl
theorem zPd :evM J B (.var i)=varM i:=rfl
theorem zMV :evM J B (.call n f es)=fnM B n f (evMs J B es):=rfl
theorem zMT  :evMs J B .nil=nilM:=rfl
theorem zKX :evMs J B (.cons e es)=zMk (evM J B e) (evMs J B es):=rfl
theorem zPg :evM J B (.lst es)=lstM (evMs J B es):=rfl
theorem zPe :evM J B (.tup es)=tupM (evMs J B es):=rfl
theorem zR9 :evM J B (.ix a b)=twoM (evM J B a) (evM J B b) ixW:=rfl
theorem zPY :evT J B (.pur e)=zFB (asB (evE J e)):=rfl
theorem zKS  :evSs' J B .nil=(λs=>some (.nx s)):=rfl
theorem zCm :evSs' J B (.cons a b)=seqM (evS' J B a) (evSs' J B b):=rfl
theorem zMO :evS' J B (.set i e)=setM i (evM J B e):=rfl
theorem zMP :evS' J B (.ret e)=retM (evM J B e):=rfl
theorem zKV :evS' J B (.drop e)=zMc (evM J B e):=rfl
theorem zHd :evS' J B (.ife c a b)=ifM (evT J B c) (evSs' J B a) (evSs' J B b):=rfl
theorem zMR :evS' J B (.app t e)=appM (evM J B t) (evM J B e):=rfl
theorem zMU :evM J B (.comp n ms u2 src el)=zG2 ms 1 (evSrc J B src) (tgM n) (evM J B el):=rfl
theorem zMN :evSrc J B (.it a)=srcM (evM J B a):=rfl
section
variable {J:Gm}{B:Dm}{G:List (Option W)}{M:Mem}{s:Mst}
theorem zAy (c:drS M G=G')(h:EvP (evE J e G') λr=>EvP (zEK r M) Q):EvP (evM J B (.pur e) ⟨G,M⟩) Q:=by
 obtain⟨r,b,z,a,q⟩:=h;exact⟨z,by rw[zPf];unfold zDz;rw[c,b,qx,a],q⟩
theorem zAo (n:noL d=true)(h:Q (.dat d,M)):EvP (zEK (d,.cl) M) Q:=⟨_,by cases d<;>exact if_pos (e:=none) n,h⟩
theorem zAH (e:G[i]?=some (some w))(h:Q (w,M)):EvP (evM J B (.var i) ⟨G,M⟩) Q:=by
 refine⟨_,?_,h⟩;rw[zPd];unfold varM;rw[e]
theorem zFx (e:B[n]?=some (f,F))(h:EvP (evMs J B es s) λws=>EvP (F ws.1 ws.2) Q):EvP (evM J B (.call n f es) s) Q:=by
 obtain⟨ws,b,r,a,q⟩:=h;refine⟨r,?_,q⟩;rw[zMV];unfold fnM;unfold zKw
 simp_all
theorem zAW (h:Q ([],M)):EvP (evMs J B .nil ⟨G,M⟩) Q:=⟨_,by rw[zMT];rfl,h⟩
theorem zAE (h:EvP (evM J B e s) λw=>EvP (evMs J B es ⟨s.G,w.2⟩) λws=>Q (w.1::ws.1,ws.2)):EvP (evMs J B (.cons e es) s) Q:=by
 obtain⟨w,e1,ws,e2,q⟩:=h;exact⟨_,by rw[zKX];unfold zMk;rw[e1,qx,e2,qx],q⟩
theorem zFw (h:EvP (evMs J B es s) λr=>r.1.length<=10000/\Q (.loc r.2.length,r.2++[r.1])):EvP (evM J B (.lst es) s) Q:=by
 obtain⟨r,a,l,q⟩:=h;exact⟨_,by rw[zPg];unfold lstM;rw[a,qx,if_pos l],q⟩
theorem zJX (h:EvP (evMs J B es s) λr=>r.1.length<=10000/\Q (.tup r.1,r.2)):EvP (evM J B (.tup es) s) Q:=by
 obtain⟨r,a,l,q⟩:=h;exact⟨_,by rw[zPe];unfold tupM;rw[a,qx,if_pos l],q⟩
theorem zOh (e:ws=ds.map .dat)(h:EvP (F ds) λr=>EvP (zEK r M) Q):EvP (zIG F ws M) Q:=by
 obtain⟨r,c,z,b,q⟩:=h;have g:∀ (f:Nat->Option D) (ds:List D),sbL f (ds.map .dat)=some ds:=λf ds=>by
  induction ds with
  | nil=>rw[map_nil,sbL]
  | cons d ds a=>rw[map_cons,sbL,sbW,qx,a];rfl
 exact⟨z,by unfold zIG;rw[e,g,qx,c,qx,b],q⟩
theorem m_ix (h:EvP (evM J B a s) λx=>EvP (evM J B b ⟨s.G,x.2⟩) λy=>EvP (ixW x.1 y.1 y.2) Q):EvP (evM J B (.ix a b) s) Q:=by
 obtain⟨x,e,y,c,r,d,q⟩:=h;exact⟨_,by rw[zR9];unfold twoM;rw[e,qx,c,qx,d],q⟩
theorem zPh :evM J B (.cmp op a b)=twoM (evM J B a) (evM J B b) (opM (cmpD op)):=rfl
theorem zGl (h:EvP (evM J B a s) λx=>EvP (evM J B b ⟨s.G,x.2⟩) λy=>∃ u v,drW y.2 x.1=some u/\drW y.2 y.1=some v/\EvP (cmpD op u v) λr=>EvP (zEK r y.2) Q):EvP (evM J B (.cmp op a b) s) Q:=by
 obtain⟨x,d,y,i,u,v,c,g,r,f,z,e,q⟩:=h;exact⟨_,by rw[zPh];unfold twoM;rw[d,qx,i,qx];unfold opM;rw[c,qx,g,qx,f,qx,e],q⟩
theorem zEd (e:M[n]?=some ws)(a:atI ws i=some w)(h:Q (w,M)):EvP (ixW (.loc n) (.dat (.int i)) M) Q:=by
 refine⟨_,?_,h⟩;show (M[n]?.bind λws=>(atI ws i).map λw=>_)=_
 simp_all
theorem zEt (hd:drS M G=G')(h:EvP (evE J e G') λr=>∃ b,r.1=.bl b/\Q (b,M)):EvP (evT J B (.pur e) ⟨G,M⟩) Q:=by
 obtain⟨r,e1,b,e2,q⟩:=h;refine⟨_,?_,q⟩;rw[zPY];unfold zFB;have:asB (evE J e) G'=some b:=by
  unfold asB;obtain⟨d,k⟩:=r
  simp_all
 simp_all
theorem zPZ :evT J B (.cmp op a b)=asBM (evM J B (.cmp op a b)):=rfl
theorem zHy (h:EvP (evM J B (.cmp op a b) s) λr=>∃ c,r.1=.dat (.bl c)/\Q (c,r.2)):EvP (evT J B (.cmp op a b) s) Q:=by
 obtain⟨⟨r,m⟩,e1,c,e2,q⟩:=h;cases e2;refine⟨_,?_,q⟩;rw[zPZ];unfold asBM;rw[e1]
def KM (J:Gm)(B:Dm)(b:MT)(Q:OutM->Prop):OutM->Prop
 | .nx s=>EvP (evSs' J B b s) Q
 | o=>Q o
theorem zAe (h:Q (.nx s)):EvP (evSs' J B .nil s) Q:=⟨_,by rw[zKS],h⟩
theorem zAC (h:EvP (evS' J B a s) (KM J B b Q)):EvP (evSs' J B (.cons a b) s) Q:=by
 obtain⟨o,c,q⟩:=h;cases o with
 | nx e =>
  obtain⟨r,d,q⟩:=q;exact⟨r,by rw[zCm];unfold seqM;rw[c];exact d,q⟩
 | rt r=>exact⟨_,by rw[zCm];unfold seqM;rw[c,qx],q⟩
 | bk r=>exact⟨_,by rw[zCm];unfold seqM;rw[c,qx],q⟩
 | ct r=>exact⟨_,by rw[zCm];unfold seqM;rw[c,qx],q⟩
theorem zAZ (h:EvP (evSs' J B b s) Q):KM J B b Q (.nx s):=h
theorem zDb (h:Q (.rt r)):KM J B b Q (.rt r):=h
theorem zBW (h:EvP (evM J B e s) λr=>Q (.nx ⟨s.G.set i (some r.1),r.2⟩)):EvP (evS' J B (.set i e) s) Q:=by
 obtain⟨r,a,q⟩:=h;exact⟨_,by rw[zMO];unfold setM;rw[a];rfl,q⟩
theorem zCp (h:EvP (evM J B e s) λr=>Q (.rt r)):EvP (evS' J B (.ret e) s) Q:=by
 obtain⟨r,e1,q⟩:=h;exact⟨_,by rw[zMP];unfold retM;rw[e1];rfl,q⟩
theorem zBq (h:EvP (evM J B e s) λr=>Q (.nx ⟨s.G,r.2⟩)):EvP (evS' J B (.drop e) s) Q:=by
 obtain⟨r,a,q⟩:=h;exact⟨_,by rw[zKV];unfold zMc;rw[a];rfl,q⟩
theorem zA9 (h:EvP (evT J B c s) λr=>(r.1=true->EvP (evSs' J B a ⟨s.G,r.2⟩) Q)/\(r.1=false->EvP (evSs' J B b ⟨s.G,r.2⟩) Q)):EvP (evS' J B (.ife c a b) s) Q:=by
 obtain⟨⟨r,m⟩,e1,q1,q2⟩:=h;cases r with
 | true =>
  obtain⟨o,d,q⟩:=q1 rfl;exact⟨o,by rw[zHd];unfold ifM;rw[e1,qx];exact(if_pos rfl).trans d,q⟩
 | false =>
  obtain⟨o,d,q⟩:=q2 rfl;exact⟨o,by rw[zHd];unfold ifM;rw[e1,qx];exact(if_neg qX).trans d,q⟩
theorem zMy (h:EvP (evM J B t s) λx=>EvP (evM J B e ⟨s.G,x.2⟩) λr=>∃ n ws,x.1=.loc n/\r.2[n]?=some ws/\ws.length<=10000/\Q (.nx ⟨s.G,r.2.set n (ws++[r.1])⟩)):EvP (evS' J B (.app t e) s) Q:=by
 obtain⟨_,a,r,c,n,ws,b,d,l,q⟩:=h;refine⟨_,?_,q⟩;rw[zMR];unfold appM;rw[a,qx]
 simp_all
def KFM (Q:MR->Prop):OutM->Prop
 | .rt r=>Q r
 | .nx s=>Q (.dat .non,s.M)
 | _=>False
theorem zDL (b:ws.length=np)(c:np<=nN)(h:EvP (g ⟨ws.map some++List.replicate (nN - np) none,M⟩) (KFM Q)):EvP (zAv np nN g ws M) Q:=by
 obtain⟨o,a,q⟩:=h;cases o with
 | rt r=>exact⟨_,by unfold zAv;rw[if_pos ⟨b,c⟩,a];rfl,q⟩
 | nx s=>exact⟨_,by unfold zAv;rw[if_pos ⟨b,c⟩,a];rfl,q⟩
 | bk _=>exact q.elim
 | ct _=>exact q.elim
theorem zIt :∀ ds:List D,sbL f (ds.map .dat)=some ds
 | []=>by rw[map_nil,sbL]
 | d::ds=>by rw[map_cons,sbL,sbW,qx,zIt ds];rfl
theorem zNd (e:M[n]?=some ws)(h:sbL (drN M k) ws=some ds):drN M (k+1) n=some (.lst ds):=by
 rw[drN,e,qx,h];rfl
theorem zGw (e:M[n]?=some (ds.map .dat)):drN M (k+1) n=some (.lst ds):=zNd e (zIt ds)
theorem zQ4 (h:EvP (evSrc J B src s) λz=>∃ y,zDc (tgM n) (evM J B el) z.1 1000 0 ⟨mask none ms s.G++[none],z.2⟩ []=some y/\y.1.length<=10000/\Q (.loc y.2.length,y.2++[y.1])):EvP (evM J B (.comp n ms x src el) s) Q:=by
 obtain⟨z,e1,y,e2,l,q⟩:=h;refine⟨_,?_,q⟩;rw[zMU];unfold zG2;rw[e1,qx];show (zHi (tgM n) (evM J B el) z.1 ⟨mask none ms s.G++[none],z.2⟩).bind _=_;rw[show zHi (tgM n) (evM J B el) z.1 ⟨mask none ms s.G++[none],z.2⟩=_ from e2,qx,if_pos l]
theorem zQD (e:evM J B a s=some (.loc n,m))(h:Q (.live n,m)):EvP (evSrc J B (.it a) s) Q:=by
 refine⟨_,?_,h⟩;rw[zMN];unfold srcM;rw[e]
 rfl
end
end DL
end
section
namespace DL
open PySem L2
end DL
end
section
namespace DL
open PySem Spec PyProof.Rows L2
noncomputable def ofB:D->Option R
 | .bl b=>some (.int (if b then 1 else 0),.cl)
 | _=>none
noncomputable def zJw (J:Gm)(i j:Nat)(ys:List Str)(y0 y1 y2 t1 t2:Str):Mst->Option OutM:=λs=>match s.G[i]? with
 | some (some (.dat (.exc c)))=>(match anyS (zB0 J) c ys,zB0 J y0 c,zB0 J y1 c,zB0 J y2 c with
  | some false,some true,some a,some b=>if a=b\/s.G.length<=j then none else some (.rt (.dat (.str (if a then t2 else t1)),s.M++[[.dat (.bl a),.dat (.bl b)]]))
  | _,_,_,_=>none)
 | _=>none
section
variable {X:Cx}{k:Nat}{J:Gm}{bs:List Str}
theorem zO3 (h:GSsM X sts f)(c:∀ s o,g s=some o->f s=some o):GSsM X sts g:=λH0 d=>(h H0 d).imp λE σ H a=>by obtain⟨T,s,o,b,k,e,p⟩:=a;exact⟨T,s,o,b,k,c _ _ e,p⟩
theorem zON:OpD1 X.K (λxs H Q=>∃ b,xs=[.bl b]/\Q (.int (if b then 1 else 0)) H) ofB:=by
 intro S H x z d Q _ e a c;unfold ofB at e;split at e
 .cases e;exact⟨_,by rw[a.bl],c _ H (Same.refl _) (.int _)⟩
 .cases e
structure zNk (X:Cx)(bs:List Str)(J:Gm)(i j:Nat)(n m:Str)(ys:List Str)(es:List Expr)(y0 y1 y2:Str):Prop where
 vi:varB X.env.scope X.N i n=true
 vj:varB X.env.scope X.N j m=true
 bi:bltB X.env.scope bs "isinstance"=true
 bt:bltB X.env.scope bs "int"=true
 cn:cNs X.env.scope ys es=true
 hy:ys.all (zEe J)=true
 hl:ys.length<=100
 hn:ys≠[]
 g:∀ y∈[y0,y1,y2],glB X.env.scope y=true/\okN y=true/\zEe J y=true
 ij:i≠j
theorem zOt {pk:Pos}{k1 k2 k3 k4 k5 k6 k7 k8}
  (g:GOk X.prog X.w X.K X.mg X.base k J bs) (U:X.A.units+64 < cLine) (nd:X.N.Nodup) (t:∀ x,X.fn x=true) (h:zNk X bs J i j n m ys es y0 y1 y2) :
  GSsM X [.If (.BoolOp .Or [.Call (.Name "isinstance" p1) [.Name n p2,.Tuple es k1 tp] [] p3,.UnaryOp .Not (.Call (.Name "isinstance" p4) [.Name n p5,.Name y0 p6] [] p7) p8] p9) [.Return (some (.Constant (.str t3) k2 pa)) pb] [] pc,
   .Assign [.Name m pd] (.List [.Call (.Name "isinstance" pe) [.Name n pf,.Name y1 pg] [] ph,.Call (.Name "isinstance" pi) [.Name n pj,.Name y2 pk] [] pl] pm) pn,
   .If (.Compare (.Subscript (.Name m po) (.Constant (.int 0) k3 pp) pq) [.Eq] [.Subscript (.Name m pr) (.Constant (.int 1) k4 ps) pt] pu) [.Return (some (.Constant (.str t3) k5 pv)) pw] [] px,
   .Return (some (.Subscript (.List [.Constant (.str t1) k6 py,.Constant (.str t2) k7 pz] qa) (.Call (.Name "int" qb) [.Subscript (.Name m qc) (.Constant (.int 0) k8 qd) qe] [] r2) r3)) r4]
   (zJw J i j ys y0 y1 y2 t1 t2):=by
 obtain⟨vi,vj,bi,bt,Z,hy,hl,R,hg,ij⟩:=h;obtain⟨M,a2,E,K,N⟩:=zBO vi;obtain⟨b1,b2,b3,b4,b5⟩:=zBO vj;have d:∀ {x:Str},bltB X.env.scope bs x=true->Gl X x/\X.mg x=none:=λh=>by
  unfold bltB at h;rw[yx] at h;exact⟨zCb h.1,g.bt _ (by simpa using h.2)⟩
 obtain⟨F,L⟩:=d bi;obtain⟨S,i2⟩:=d bt;obtain⟨vs,us,Y⟩:=zNR g Z hy;have w:∀ {y:Str} {p q r s:Pos},y∈[y0,y1,y2]->GE X (.Call (.Name "isinstance" p) [.Name n q,.Name y r] [] s) (one (varD i) (iscF (zB0 J y))):=λhm=>by
  obtain⟨h1,h2,h3⟩:=hg _ hm;obtain⟨u,vy,ru,hv,hs⟩:=zNQ g (zCb h1) (zBt h2).1 h3;exact zRo F L (hv _) ru hs (zHZ M E K N) rfl
 have T1:=zRM (pos:=p9) (zJx (zRp (p:=p1) (pos:=p3) (tp:=tp) (x1:=k1) F L Y hl R (zHZ (pos:=p2) M E K N) rfl) λ_=>rfl) (zF8 (zRP (pos:=p8) (zJx (w (y:=y0) (p:=p4) (q:=p5) (r:=p6) (s:=p7) (by simp)) λ_=>rfl)));have A:∀ {l:Int} {p q r:Pos} {kk},GE X (.Subscript (.Name m p) (.Constant (.int l) kk q) r) (two (varD j) (λ_=>some (.int l,.cl)) ixD):=zPN (zHZ b1 b3 b4 b5) ge_int λ_ _=>rfl
 have P:∀ {p q:Pos} {kk},GSsM X [.Return (some (.Constant (.str t3) kk p)) q] _:=zBS (zFK (zD5 zGB)) zCl;refine zO3 (zBS (zJy (zFI T1.pt) P zCl) (zBS (zFJ nd b1 b2 (zD5 (zJ8 (zD6 (w (y:=y1) (by simp)) (zD6 (w (y:=y2) (by simp)) zKB rfl) rfl))) rfl (.inl (t _))) (zBS (zJy (zFI (zKA U rfl A A).2) P zCl) (zBS (zFK (zD5 (zPN (zJ8 (zD6 zGB (zD6 zGB zKB rfl) rfl)) (zPM (by intro O s σ H xs us Q I r h;obtain⟨b,rfl,q⟩:=h;obtain⟨u,rfl,r1⟩:=zFa r;cases (show u=Value.bool b from r1);exact call_int_bool ⟨.int _,H,I.tok _,⟨_,rfl⟩,q⟩) zON S i2 (by decide +kernel) A rfl (by decide) (by decide)) λ_ _=>rfl))) zCl)))) λs o e=>?_
 unfold zJw at e;split at e
 .rename_i c hi;split at e
  .rename_i a b e1 e2 e3 V;by_cases hq:a=b\/s.G.length<=j
   .rw [if_pos hq] at e;cases e
   rw[if_neg hq] at e;cases e;have lj:j < s.G.length:=by omega
   have rI:varD i (drS s.M s.G)=some (.exc c,.cl):=by
    have:(drS s.M s.G)[i]?=some (some (.exc c,false)):=by
     unfold drS;rw[getElem?_map,hi,Option.map_some,qx,show drW s.M (.dat (.exc c))=some (.exc c) by unfold drW;rw[sbW]]
     rfl
    unfold varD;rw[this]
    rfl
   have rJ:varD j (drS (s.M++[[W.dat (.bl a),.dat (.bl b)]]) (s.G.set j (some (.loc s.M.length))))=some (.lst [.bl a,.bl b],.cl):=by
    have:(drS (s.M++[[W.dat (.bl a),.dat (.bl b)]]) (s.G.set j (some (.loc s.M.length))))[j]?=some (some (.lst [.bl a,.bl b],false)):=by
     unfold drS;rw[getElem?_map,getElem?_set_self lj,Option.map_some,qx,show drW (s.M++[[W.dat (.bl a),.dat (.bl b)]]) (.loc s.M.length)=some (.lst [.bl a,.bl b]) by
      unfold drW;rw[sbW];exact zGw (ds:=[.bl a,.bl b]) (by simp)]
     rfl
    unfold varD;rw[this]
    rfl
   have C:∀ {y:Str} {v:Bool},zB0 J y c=some v->one (varD i) (iscF (zB0 J y)) (drS s.M s.G)=some (.bl v,.cl):=λh=>by
    unfold one;rw[rI,qx];show (zB0 J _ c).bind _=_;rw[h]
    rfl
   have A1:one (varD i) (isaF (zB0 J) ys) (drS s.M s.G)=some (.bl false,.cl):=by
    unfold one;rw[rI,qx];show (anyS (zB0 J) c ys).bind _=_;rw[e1]
    rfl
   have B:∀ {l:Int} {v:Bool},atI [D.bl a,.bl b] l=some (.bl v)->two (varD j) (λ_=>some (.int l,.cl)) ixD (drS (s.M++[[W.dat (.bl a),.dat (.bl b)]]) (s.G.set j (some (.loc s.M.length))))=some (.bl v,.cl):=λh=>by
    unfold two;rw[rJ];show (atI _ _).map _=_;rw[h]
    rfl
   have T:zFB (asB (orD (one (varD i) (isaF (zB0 J) ys)) (notD (one (varD i) (iscF (zB0 J y0)))))) s=some (false,s.M):=by
    unfold zFB asB orD notD asB;rw[A1,C e2]
    rfl
   have S2:zDz (lstD (zFO (one (varD i) (iscF (zB0 J y1))) (zFO (one (varD i) (iscF (zB0 J y2))) λ_=>some []))) s=some (.loc s.M.length,s.M++[[.dat (.bl a),.dat (.bl b)]]):=by
    unfold zDz lstD zFO;rw[C e3,C V]
    rfl
   have S3:zFB (asB (two (two (varD j) (λ_=>some (.int 0,.cl)) ixD) (two (varD j) (λ_=>some (.int 1,.cl)) ixD) (cmpD .Eq))) ⟨s.G.set j (some (.loc s.M.length)),s.M++[[.dat (.bl a),.dat (.bl b)]]⟩=some (false,s.M++[[.dat (.bl a),.dat (.bl b)]]):=by
    unfold zFB asB;rw[show ∀ f g o G,two f g o G=(f G).bind λx=>(g G).bind λy=>o x.1 y.1 from λ_ _ _ _=>rfl,B (l:=0) rfl,B (l:=1) rfl];show (match cmpD .Eq (.bl a) (.bl b) with
     | some (.bl b,_)=>some b
     | _=>none).map _=_
    rw[show cmpD .Eq (.bl a) (.bl b)=some (.bl false,.cl) by
     have:a≠b:=λz=>hq (.inl z)
     cases a<;>cases b<;>first | exact absurd rfl this | rfl]
    rfl
   have S4:zDz (two (lstD (zFO (λ_=>some (.str t1,.cl)) (zFO (λ_=>some (.str t2,.cl)) λ_=>some []))) (one (two (varD j) (λ_=>some (.int 0,.cl)) ixD) ofB) ixD) ⟨s.G.set j (some (.loc s.M.length)),s.M++[[.dat (.bl a),.dat (.bl b)]]⟩=some (.dat (.str (if a then t2 else t1)),s.M++[[.dat (.bl a),.dat (.bl b)]]):=by
    unfold zDz;rw[show ∀ f g o G,two f g o G=(f G).bind λx=>(g G).bind λy=>o x.1 y.1 from λ_ _ _ _=>rfl,show ∀ f o G,one f o G=(f G).bind λx=>o x.1 from λ_ _ _=>rfl,B (l:=0) rfl];cases a<;>rfl
   unfold seqM ifM setM retM;rw[T];show ((zDz _ s).bind _).bind _=_;rw[S2];show ((zFB _ ⟨s.G.set j (some (.loc s.M.length)),s.M++[[.dat (.bl a),.dat (.bl b)]]⟩).bind _).bind _=_;rw[S3];show ((zDz _ ⟨s.G.set j (some (.loc s.M.length)),s.M++[[.dat (.bl a),.dat (.bl b)]]⟩).bind _).bind _=_;rw[S4]
   rfl
  .cases e
 .cases e
end
structure zK4 (st:Stmt)(body:List Stmt)(c0 n m:Str)(ys:List Str)(y0 y1 y2 t0 t1 t2:Str):Prop where
 ex:∃ (es:List Expr) (t3:Str) (p1 p2 p3 p4 p5 p6 p7 p8 p9 pa pb pc pd pe pf pg ph pi pj pk pl pm pn po pp pq pr ps pt pu pv pw px py pz tp qa qb qc qd qe r1 r2 r3 r4 r5 r6 r7 r8:Pos) (k1:_) (k2 k3 k4 k5 k6 k7 k8 k9:_),
  zAF st=[.Try body [.ExceptHandler (some (.Name c0 r1)) (some n) [.If (.BoolOp .Or [.Call (.Name "isinstance" p1) [.Name n p2,.Tuple es k1 tp] [] p3,.UnaryOp .Not (.Call (.Name "isinstance" p4) [.Name n p5,.Name y0 p6] [] p7) p8] p9) [.Return (some (.Constant (.str t3) k2 pa)) pb] [] pc,
   .Assign [.Name m pd] (.List [.Call (.Name "isinstance" pe) [.Name n pf,.Name y1 pg] [] ph,.Call (.Name "isinstance" pi) [.Name n pj,.Name y2 pk] [] pl] pm) pn,
   .If (.Compare (.Subscript (.Name m po) (.Constant (.int 0) k3 pp) pq) [.Eq] [.Subscript (.Name m pr) (.Constant (.int 1) k4 ps) pt] pu) [.Return (some (.Constant (.str t3) k5 pv)) pw] [] px,
   .Return (some (.Subscript (.List [.Constant (.str t1) k6 py,.Constant (.str t2) k7 pz] qa) (.Call (.Name "int" qb) [.Subscript (.Name m qc) (.Constant (.int 0) k8 qd) qe] [] r2) r3)) r4] r5] [] [] r6,.Return (some (.Constant (.str t0) k9 r7)) r8]/\cNs (zAA st) ys es=true
noncomputable def tryB (sc:Scope)(N bs:List Str)(J:Gm)(i j:Nat)(c0 n m:Str)(ys:List Str)(y0 y1 y2:Str):Bool:=varB sc N i n&&varB sc N j m&&bltB sc bs "isinstance"&&bltB sc bs "int"&&ys.all (zEe J)&&decide (ys.length<=100)&&!ys.isEmpty&&[c0,y0,y1,y2].all (λy=>glB sc y&&okN y&&zEe J y)&&decide (i≠j)&&decide (c0 ≠ "ValueError")&&(sc.names.lookup n==some .local)
section
variable {P:Program}{w:World}{K:W.Frag}{mg:Str->Option Value}{base:Heap}{k:Nat}{J:Gm}{B:Dm}{L:Xm}{bs:List Str}
def tryF (J:Gm)(B:Dm)(L:Xm)(b:MT)(i j:Nat)(c0:Str)(ys:List Str)(y0 y1 y2 t0 t1 t2:Str):Mst->Option OutM:=seqM (tryM (evSs' J B b) (evX J B L b) (zB0 J c0) i (zJw J i j ys y0 y1 y2 t1 t2)) (seqM (retM (zDz λ_=>some (.str t0,.cl))) λs=>some (.nx s))
theorem zP2 {st:Stmt}(o:XOkM X k J B bs)(fnl:∀ x,X.fn x=true)(hxe:X.xe=λ_ _=>False)(hst:X.stack=X.env::X.outer)(hfr:X.env.frame=some X.env.locals)(hsc:zAA st=X.env.scope)(T:zK4 st body c0 n m ys y0 y1 y2 t0 t1 t2)(ck:cSs' X.env.scope X.N bs b body=true)(tb:tryB X.env.scope X.N bs J i j c0 n m ys y0 y1 y2=true)(e:XmOk X.prog X.w X.K X.mg X.base k L) :
  GSsM X (zAF st) (tryF J B L b i j c0 ys y0 y1 y2 t0 t1 t2):=by
 obtain⟨es,t3,p1,p2,p3,p4,p5,p6,p7,p8,p9,pa,pb,pc,pd,pe,pf,pg,ph,pi,pj,pk,pl,pm,pn,po,pp,pq,pr,ps',pt,pu,pv,pw,px,py,pz,tp,qa,qb,qc,qd,qe,r1,r2,r3,r4,r5,r6,r7,r8,k1,k2,k3,k4,k5,k6,k7,k8,k9,hb,cn⟩:=T.ex;rw[hb];rw[hsc] at cn;unfold tryB at tb;simp only[yx,Bool.not_eq_true',qy,all_eq_true,beq_iff_eq,mem_cons,not_mem_nil,or_false] at tb;obtain⟨⟨⟨⟨⟨⟨⟨⟨⟨⟨vi,vj⟩,bi⟩,bt⟩,hy⟩,hl⟩,hn⟩,hg⟩,ij⟩,h1⟩,h5⟩:=tb;obtain⟨v1,v2,v3,v4,v5⟩:=zBO vi;obtain⟨c1,c2⟩:=hg c0 (.inl rfl);obtain⟨p,pm',pe'⟩:=List.any_eq_true.mp c2;obtain⟨u,hu,hs⟩:=o.x.g.sb p pm';rw[of_decide_eq_true pe'] at hu hs;have hu0:=zB2 o.x;rcases hu with ⟨Y,rfl,hY⟩ | ⟨_,z,_⟩
 .refine zBS (zO6 hxe hst hfr o.x.nd v1 h5 (.inr h5) (zCb c1.1) hY (zBt c1.2).1 (λcc C e q=>(hs cc true (zDn e) C q).2.2 rfl) ((zDp o fnl b).2 _ ck) ((zIk o e fnl hxe hst hfr b).2 _ ck) λev=>?_) (zBS (zFK (zD5 zGB)) zCl);have HO:zNk (X.mkd ev) bs J i j n m ys es y0 y1 y2:=⟨vi,vj,bi,bt,cn,all_eq_true.mpr hy,hl,(λz=>by rw[z] at hn;cases hn),(λy hy=>by
   have:=hg y (by simp only[mem_cons,not_mem_nil,or_false] at hy;exact .inr hy);exact⟨this.1.1,this.1.2,this.2⟩),ij⟩
  exact zOt (X:=X.mkd ev) o.x.g hu0 o.x.nd fnl HO
 .exact absurd z h1
theorem zKl {st:Stmt}(F:Fun K x qual st f fd)(sc:zAV N ps (zAA st))(T:zK4 st body c0 n m ys y0 y1 y2 t0 t1 t2)(h:cSs' (zAA st) N bs b body=true)(tb:tryB (zAA st) N bs J i j c0 n m ys y0 y1 y2=true)(g:GOk P w K mg base k J bs)(d:DmOk P w K mg base k B)(e:XmOk P w K mg base k L) :
  FnOk P w K mg base CX0 (k+1) f fd ps (spM K (zAv ps.length N.length (tryF J B L b i j c0 ys y0 y1 y2 t0 t1 t2))) :=
 zKG F sc λcdv A a s H E l=>zP2 (X:=(cxOf CX0 P w K mg base N qual (zAA st) f cdv A a s H E).nox) ⟨⟨g,l,rfl,sc.nd,PassesOwn.never⟩,d⟩ (λ_=>rfl) rfl rfl rfl rfl T h tb e
theorem DmOk.aY {st:Stmt}(d:DmOk P w K mg base k B)(g:GOk P w K mg base k J bs)(e:XmOk P w K mg base k L)(X:K.In h)(G:h.Ns mainGlobals mg)(t:∃ fd,Fun K x x st f fd)(l:W.nsIn K mainGlobals x=some (some (.ref f)))(sc:zAV N (N.take n0) (zAA st))(T:zK4 st body c0 n m ys y0 y1 y2 t0 t1 t2)(o:cSs' (zAA st) N bs b body=true)(tb:tryB (zAA st) N bs J i j c0 n m ys y0 y1 y2=true)(c:∀ fd,Fun K x x st f fd->zBJ K fd (N.take n0) [])(a:spec.lookup x=none) :
  DmOk P w K mg base (k+1) (B.add x (zAv (N.take n0).length N.length (tryF J B L b i j c0 ys y0 y1 y2 t0 t1 t2))) :=
 let ⟨_,E⟩:=t;d.one (Nat.le_succ k) (by rw[a];exact⟨f,_,_,zKl E sc T o tb g d e,W.mg_of X G l,E.kp,c _ E⟩)
end
noncomputable def zNs (st:Stmt):List Stmt:=match (zAF st).headD (.Pass ⟨0,0,0,0⟩) with
 | .Try b _ _ _ _=>b
 | _=>[]
theorem zBi {K:W.Frag}{sub:List (Str×Str×Bool)}{y:Str}(u:Value)(h:(∃ Y,u=.ref Y/\mg y=some (.ref Y))\/(mg y=none/\y = "ValueError"/\u=.type "ValueError"))(k:∀ c b,(c,y,b)∈sub->∀ C,zAp K c C->XCls K C/\W.kitOne K (.ref C) u=some b/\(b=true->W.exmOne K (.ref C) u=some true)):zEL K mg sub y:=⟨u,h,k⟩
theorem XmOk.aQ {K:W.Frag}{st:Stmt}(e:XmOk P w K mg base k L)(n:Nat)(N:List Str)(d:DmOk P w K mg base k B)(g:GOk P w K mg base k J bs)(t:FQ K C f m q st)(i:zAp K c C)(h:Cls K C)(a:dM st n N bs b=true:=by walk_at "k")(j:bO m q st (N.take n):=by walk_at "b")(l:spec.lookup q=some (.mth c m):=by walk_at "k"):XmOk P w K mg base (k+1) (L++[(q,zBx (N.take n).length N.length (evX J B L b))]) :=
 let ⟨_,E⟩:=t.F;e.addM d g E (zHB (Bool.and_eq_true_iff.mp a).1) (Bool.and_eq_true_iff.mp a).2 (E.binds j) i h t.M l
end DL
end
local macro_rules | `(tactic| walk_at "b")=>`(tactic| first | exact DL.bz2 rfl rfl | exact DL.bz1 rfl rfl | exact DL.bz3 rfl rfl | exact DL.bz4 rfl rfl | exact DL.bz0 rfl rfl | exact DL.bz5 rfl rfl)
section
namespace DL
open PySem Spec PyProof.Rows L2
theorem zKU :evS' J B (.for1 i src b)=(λs=>(evSrc J B src s).bind λr=>zIP (tgM i) (evSs' J B b) r.1 0 ⟨s.G,r.2⟩):=rfl
theorem zKT :evSrc J B (.rng a)=zLM (evM J B a):=rfl
theorem zMQ :evS' J B (.put t k e)=putM (evM J B t) (evM J B k) (evM J B e):=rfl
section
variable {J:Gm}{B:Dm}{G:List (Option W)}{M:Mem}{s:Mst}
def KLM (P:Mst->Prop)(Q:OutM->Prop):OutM->Prop
 | .nx s=>P s
 | .ct s=>P s
 | .bk s=>Q (.nx s)
 | .rt r=>Q (.rt r)
theorem zC4 (ws:List W)(P:Nat->Mst->Prop)(hl:ws.length < 1000)(it:∀ j s,P j s->itm s.M src=some ws)
  (step:∀ j w s,ws[j]?=some w->P j s->∃ s1,t w s=some s1/\EvP (b s1) (KLM (P (j+1)) Q)) (fin:∀ s,P ws.length s->Q (.nx s)) (h:P 0 s):EvP (zIP t b src 0 s) Q:=by
 have key:∀ (m k j:Nat) (s:Mst),j+k=ws.length->k < m->P j s->∃ o,forN t b src m j s=some o/\Q o:=by
  intro m
  induction m with
  | zero=>intro k j s _ z;omega
  | succ m ih =>
   intro k j s e hk p;by_cases hj:j < ws.length
   .have ew:ws[j]?=some ws[j]:=getElem?_eq_getElem hj;obtain⟨s1,e1,o,e2,q⟩:=step j _ s ew p;cases o with
    | nx s' =>
     obtain⟨o',e3,q'⟩:=ih (k - 1) (j+1) s' (by omega) (by omega) q;exact⟨o',by rw[forN,it j s p,qx,ew];dsimp only;rw[e1,qx,e2,qx];exact e3,q'⟩
    | ct s' =>
     obtain⟨o',e3,q'⟩:=ih (k - 1) (j+1) s' (by omega) (by omega) q;exact⟨o',by rw[forN,it j s p,qx,ew];dsimp only;rw[e1,qx,e2,qx];exact e3,q'⟩
    | bk s'=>exact⟨_,by rw[forN,it j s p,qx,ew];dsimp only;rw[e1,qx,e2,qx],q⟩
    | rt r=>exact⟨_,by rw[forN,it j s p,qx,ew];dsimp only;rw[e1,qx,e2,qx],q⟩
   .have ej:j=ws.length:=by omega
    subst ej;exact⟨_,by rw[forN,it _ s p,qx,List.getElem?_eq_none (le_refl _)],fin s p⟩
 exact key 1000 ws.length 0 s (by omega) hl h
theorem zCX (h:EvP (evSrc J B src s) λr=>EvP (zIP (tgM i) (evSs' J B b) r.1 0 ⟨s.G,r.2⟩) Q):EvP (evS' J B (.for1 i src b) s) Q:=by
 obtain⟨r,c,o,a,q⟩:=h;exact⟨o,by rw[zKU];dsimp only;rw[c];exact a,q⟩
theorem zEu (h:EvP (evM J B a s) λx=>∃ n,x.1=.loc n/\Q (.live n,x.2)):EvP (evSrc J B (.it a) s) Q:=by
 obtain⟨⟨x,m⟩,e,n,e2,q⟩:=h;cases e2;exact zQD e q
theorem zDo (h:EvP (evM J B a s) λx=>∃ j,x.1=.dat (.int j)/\(-(2^62)<=j/\j < 2^62)/\Q (.items ((rngL 0 j.toNat).map .dat),x.2)):EvP (evSrc J B (.rng a) s) Q:=by
 obtain⟨⟨x,m⟩,e,j,e2,l,q⟩:=h;cases e2;refine⟨_,?_,q⟩;rw[zKT];unfold zLM;rw[e];exact if_pos l
theorem zQI (h:EvP (evM J B e s) λr=>EvP (evM J B t ⟨s.G,r.2⟩) λx=>EvP (evM J B k ⟨s.G,x.2⟩) λj=>∃ n i ws m,x.1=.loc n/\j.1=.dat (.int i)/\j.2[n]?=some ws/\ixN ws.length i=some m/\Q (.nx ⟨s.G,j.2.set n (ws.set m r.1)⟩)):EvP (evS' J B (.put t k e) s) Q:=by
 obtain⟨r,a,⟨x,b⟩,e2,⟨j,mj⟩,e3,n,i,ws,m,e4,e5,e6,e7,q⟩:=h;refine⟨_,?_,q⟩;rw[zMQ];unfold putM;rw[a,qx,e2,qx,e3,qx]
 simp_all
end
end DL
namespace DL
open PySem L2
end DL
end
section
namespace DL
open PySem Spec PyProof.Rows L2
noncomputable def news (m k:Nat):List W:=(List.range k).map λj=>.loc (m+j)
theorem zIs {g:Nat->Option D}{O:Type}(ad:O->Nat)(d:O->D):∀ l:List O,(∀ i∈l,g (ad i)=some (d i))->sbL g (l.map λi=>.loc (ad i))=some (l.map d)
 | [],_=>by rw[map_nil,sbL];rfl
 | i::l,h=>by
  rw[map_cons,sbL,sbW,h i xy,qx,zIs ad d l λj hj=>h j (qY _ hj)]
  rfl
theorem zBD {U:Mem}{n:Nat}{ws:List W}(h:M[n]?=some ws):(M++U)[n]?=some ws:=by
 rw[getElem?_append_left (zzg h).1];exact h
abbrev Lp:=List (Nat×List D)
structure Ll (M:Mem)(n:Nat)(l:Lp):Prop where
 top:M[n]?=some (l.map λp=>.loc p.1)
 row:∀ p∈l,M[p.1]?=some (p.2.map .dat)
abbrev llD (l:Lp):D:=.lst (l.map λp=>.lst p.2)
theorem Ll.dr (e:Ll M n l):drW M (.loc n)=some (llD l):=zNd e.top (zIs _ _ l λp a=>zGw (e.row p a))
theorem Ll.keep (e:Ll M n l)(k1:M'[n]?=M[n]?)(k2:∀ p∈l,M'[p.1]?=M[p.1]?):Ll M' n l:=⟨by rw[k1];exact e.top,λp hp=>by rw[k2 p hp];exact e.row p hp⟩
theorem Ll.lt (e:Ll M n l):n < M.length/\∀ p∈l,p.1 < M.length:=⟨(zzg e.top).1,λp a=>(zzg (e.row p a)).1⟩
theorem zAL {i:Nat}(e:G[i]?=some (some w))(h:drW M w=some d):(drS M G)[i]?=some (some (d,false)):=by
 unfold drS
 simp_all
theorem zAN :drW M (.dat d)=some d:=rfl
theorem zB5 (e:M[n]?=some (ds.map .dat)):drW M (.loc n)=some (.lst ds):=by unfold drW;exact zGw e
section
variable {J:Gm}{B:Dm}{s:Mst}
theorem zBh (h:EvP (evM J B a s) λx=>∃ c ns n ws w,x.1=.ob c ns n/\(c,fl,none)∈J.ob/\x.2[n]?=some ws/\(ns.zip ws).lookup fl=some w/\Q (w,x.2)):EvP (evM J B (.fld a fl) s) Q:=by
 obtain⟨⟨x,m⟩,e,c,ns,n,ws,w,rfl,h1,h2,h3,q⟩:=h;refine⟨_,?_,q⟩;show fldM J.ob fl _ s=_;unfold fldM;rw[e,qx]
 simp_all
theorem zDa (h:EvP (evM J B a s) λx=>∃ c n y F,clsW m x.1=some c/\ix.lookup c=some n/\B[n]?=some (y,F)/\spec.lookup y=some (.mth c m)/\EvP (evMs J B es ⟨s.G,x.2⟩) λws=>EvP (F (x.1::ws.1) ws.2) Q):EvP (evM J B (.mth ix m a es) s) Q:=by
 obtain⟨x,g,c,n,y,F,e,f,b,d,ws,j,r,i,q⟩:=h;refine⟨r,?_,q⟩;show mthM B ix m _ _ s=_;unfold mthM
 simp_all
theorem m_mk (e:B[n]?=some (y,F))(a:spec.lookup y=some (.mk c kw))(h:EvP (evMs J B es s) λws=>EvP (F (ws.1++zOb d) ws.2) Q):EvP (evM J B (.mk n c kw d es) s) Q:=by
 obtain⟨ws,b,r,f,q⟩:=h;refine⟨r,?_,q⟩;show mkM B n c kw d _ s=_;unfold mkM
 simp_all
theorem zQ3 (h:EvP (evM J B a s) λx=>EvP (evM J B b ⟨s.G,x.2⟩) λj=>∃ t n ks ws u,x.1=.di t n/\kI j.1=some ks/\ks.length=lenK t/\j.2[n]?=some ws/\zAj ks ws=some u/\Q (u,j.2)):EvP (evM J B (.dix a b) s) Q:=by
 obtain⟨⟨x,m⟩,e1,j,e2,t,n,ks,ws,u,rfl,e3,e4,e5,e6,q⟩:=h;refine⟨_,?_,q⟩;show dixM _ _ s=_;unfold dixM;rw[e1,qx]
 simp_all
theorem zNL (h:EvP (evM J B a s) λx=>∃ n,x.1=.di false n/\EvP (evM J B b ⟨s.G,x.2⟩) λj=>∃ ks ws u,kI j.1=some ks/\ks.length=1/\j.2[n]?=some ws/\zAj ks ws=some u/\Q (u,j.2.set n (zBw ks ws))):EvP (evM J B (.dpop a b) s) Q:=by
 obtain⟨⟨x,m⟩,e1,n,rfl,j,e2,ks,ws,u,e3,e4,e5,e6,q⟩:=h;refine⟨_,?_,q⟩;show zMf _ _ s=_;unfold zMf;rw[e1,qx]
 simp_all
theorem zQ1 (h:EvP (evM J B a s) λx=>∃ n,x.1=.loc n/\EvP (evM J B b ⟨s.G,x.2⟩) λr=>∃ k ws is j,r.1=.dat (.int k)/\r.2[n]?=some ws/\zDZ ws=some is/\posI k is=some j/\Q (.dat (.int (j:Int)),r.2)):EvP (evM J B (.idx a b) s) Q:=by
 obtain⟨⟨x,m⟩,e1,n,rfl,⟨r,m2⟩,e2,k,ws,is,j,rfl,e3,e4,e5,q⟩:=h;refine⟨_,?_,q⟩;show idxM _ _ s=_;unfold idxM;rw[e1,qx];dsimp only;rw[e2,qx]
 simp_all
theorem zSv (h:EvP (evM J B a s) λx=>∃ n ws,x.1=.loc n/\x.2[n]?=some ws/\Q (.loc x.2.length,x.2++[ws])):EvP (evM J B (.lcp a) s) Q:=by
 obtain⟨⟨x,m⟩,e1,n,ws,rfl,e2,q⟩:=h;refine⟨_,?_,q⟩;show lcpM _ s=_;unfold lcpM;rw[e1,qx]
 simp_all
theorem zSu (h:EvP (evM J B a s) λx=>∃ n ws,x.1=.loc n/\x.2[n]?=some ws/\Q (.dat (.int ws.length),x.2)):EvP (evM J B (.len a) s) Q:=by
 obtain⟨⟨x,m⟩,e1,n,ws,rfl,e2,q⟩:=h;refine⟨_,?_,q⟩;show lenM _ s=_;unfold lenM;rw[e1,qx]
 simp_all
theorem zNw (h:EvP (evM J B a s) λx=>EvP (evM J B b ⟨s.G,x.2⟩) λy=>∃ t n ks ws,y.1=.di t n/\kI x.1=some ks/\ks.length=lenK t/\y.2[n]?=some ws/\Q (!(zAj ks ws).isSome,y.2)):EvP (evT J B (.nid a b) s) Q:=by
 obtain⟨x,c,⟨y,m⟩,e2,t,n,ks,ws,rfl,e3,e4,e5,q⟩:=h;refine⟨_,?_,q⟩;show asBM _ s=_;have:twoM (evM J B a) (evM J B b) nidW s=some (.dat (.bl !(zAj ks ws).isSome),m):=by
  unfold twoM
  simp_all
  unfold nidW
  simp_all
 unfold asBM;rw[this]
theorem zQH (h:EvP (evM J B t s) λx=>∃ n,x.1=.loc n/\EvP (evM J B e ⟨s.G,x.2⟩) λr=>∃ k ws is j,r.1=.dat (.int k)/\r.2[n]?=some ws/\zDZ ws=some is/\posI k is=some j/\Q (.nx ⟨s.G,r.2.set n (ws.eraseIdx j)⟩)):EvP (evS' J B (.rem t e) s) Q:=by
 obtain⟨⟨x,m⟩,e1,n,rfl,⟨r,m2⟩,e2,k,ws,is,j,rfl,e3,e4,e5,q⟩:=h;refine⟨_,?_,q⟩;show lmM (evM J B t) (evM J B e) remW s=_;unfold lmM;rw[e1,qx];dsimp only
 simp_all
 unfold remW
 simp_all
theorem zN1 (h:EvP (evM J B e s) λr=>EvP (evM J B t ⟨s.G,r.2⟩) λx=>EvP (evM J B k ⟨s.G,x.2⟩) λj=>∃ b n ks ws,x.1=.di b n/\kI j.1=some ks/\j.2[n]?=some ws/\(ks.length=lenK b/\ws.length<=10000)/\Q (.nx ⟨s.G,j.2.set n (zGE ks j.1 r.1 ws)⟩)):EvP (evS' J B (.dput t k e) s) Q:=by
 obtain⟨r,a,⟨x,m⟩,e2,j,e3,b,n,ks,ws,rfl,e4,e5,e6,q⟩:=h;refine⟨_,?_,q⟩;show zMe _ _ (evM J B e) s=_;unfold zMe;rw[a,qx,e2,qx,e3]
 simp_all
theorem zOs {c:Str}{n:Nat}{L:List (Str×(Mst->Option MR))}{ws:List W}{M:Mem}{Q:MR->Prop}(h1:ws.length=n)(hm:mutK (L.map (·.1))=false)(h:EvP (zFF L ⟨none::ws.map some,M⟩) λz=>Q (.obj c (L.map (·.1)) z.1,z.2)):EvP (zF7 c n L ws M) Q:=by
 obtain⟨z,e,q⟩:=h;exact⟨_,by unfold zF7;rw[if_pos h1,e];unfold mkR;rw[hm];rfl,q⟩
theorem zJs (h:EvP (g s) λw=>EvP (zFF r ⟨s.G,w.2⟩) λz=>Q (w.1::z.1,z.2)):EvP (zFF ((x,g)::r) s) Q:=by
 obtain⟨w,b,z,a,q⟩:=h;exact⟨_,by unfold zFF;dsimp only;rw[b,qx,a];rfl,q⟩
end
def wfD (ws:List W):Prop:=∀ e∈ws,∃ d u ks,e=.tup [d,u]/\kI d=some ks
theorem zOi :(zGE k' d u ws).length<=ws.length+1:=by
 unfold zGE;split
 .simp
 .simp
theorem zED :∀ {ws:List W},wfD ws->zAj k (zBw k' ws)=if k=k' then none else zAj k ws
 | [],_=>by show (none:Option W)=_;split<;>rfl
 | e::ws,h=>by
  obtain⟨d',u',ks,rfl,hk⟩:=h e xy;have ih:=zED (k:=k) (k':=k') (ws:=ws) λx hx=>h x (qY _ hx)
  unfold zBw at ih ⊢;rw[filter_cons,show hasK k' (.tup [d',u'])=decide (kI d'=some k') from rfl,show zAj k (.tup [d',u']::ws)=if kI d'=some k then some u' else zAj k ws from rfl];by_cases q:kI d'=some k'
  .rw [decide_eq_true q,if_neg (by decide),ih];by_cases z:k=k'
   .rw [if_pos z,if_pos z]
   .rw [if_neg z,if_neg z,if_neg λy=>z (xY (y.symm.trans q))]
  .rw [decide_eq_false q,if_pos (by decide),show ∀ l,zAj k (.tup [d',u']::l)=if kI d'=some k then some u' else zAj k l from λ_=>rfl,ih];by_cases z:k=k'
   .subst z;rw[if_neg q,if_pos rfl,if_pos rfl]
   .rw [if_neg z,if_neg z]
theorem zIa (h:wfD ws):wfD (zBw k' ws):=λe a=>h e (mem_filter.mp a).1
theorem zHR :(zBw k' ws).length<=ws.length:=List.length_filter_le _ _
end DL
end
open PySem L2 DL
local macro_rules | `(tactic| walk_at "f")=>`(tactic| exact ⟨rfl,rfl,rfl,by decide +kernel,rfl,by decide +kernel,by decide +kernel⟩)
section
namespace Q
open PySem L2 DL
noncomputable def top (i:Nat):Stmt:=PySem.Challenge.pw_coverfill_k37_no_layer_no_place.main.body.getD i (.Pass ⟨0,0,0,0⟩)
noncomputable def bs:List Str:=["abs","len","range","list","tuple","zip","reversed","max","sorted","isinstance","int"]
noncomputable def b0:S:=.cons (.whl (.bl true) (.cons .pass .nil)) .nil
noncomputable def b1:S:=.cons (.whl (.cmp .Gt (.var 1) (.int 0)) (.cons (.set 2 (.bin .Mod (.var 0) (.var 1))) (.cons (.set 0 (.var 1)) (.cons (.set 1 (.var 2)) .nil)))) (.cons (.ret (.var 0)) .nil)
noncomputable def b2:S:=.cons (.ife (.cmp .Eq (.var 1) (.int 0)) (.cons .never .nil) .nil) (.cons (.set 2 (.call 1 "common_measure" (.cons (.abs (.var 0)) (.cons (.abs (.var 1)) .nil)))) (.cons (.ife (.cmp .Lt (.var 1) (.int 0)) (.cons (.set 2 (.neg (.var 2))) .nil) .nil) (.cons (.ret (.tup (.cons (.bin .FloorDiv (.var 0) (.var 2)) (.cons (.bin .FloorDiv (.var 1) (.var 2)) .nil)))) .nil)))
noncomputable def b3:S:=.cons (.ret (.call 2 "ratio" (.cons (.bin .Add (.bin .Mult (.ix (.var 0) (.int 0)) (.ix (.var 1) (.int 1))) (.bin .Mult (.ix (.var 1) (.int 0)) (.ix (.var 0) (.int 1)))) (.cons (.bin .Mult (.ix (.var 0) (.int 1)) (.ix (.var 1) (.int 1))) .nil)))) .nil
noncomputable def b4:S:=.cons (.ret (.call 2 "ratio" (.cons (.bin .Sub (.bin .Mult (.ix (.var 0) (.int 0)) (.ix (.var 1) (.int 1))) (.bin .Mult (.ix (.var 1) (.int 0)) (.ix (.var 0) (.int 1)))) (.cons (.bin .Mult (.ix (.var 0) (.int 1)) (.ix (.var 1) (.int 1))) .nil)))) .nil
noncomputable def b5:S:=.cons (.ret (.call 2 "ratio" (.cons (.bin .Mult (.ix (.var 0) (.int 0)) (.ix (.var 1) (.int 0))) (.cons (.bin .Mult (.ix (.var 0) (.int 1)) (.ix (.var 1) (.int 1))) .nil)))) .nil
noncomputable def b6:S:=.cons (.ret (.call 2 "ratio" (.cons (.bin .Mult (.ix (.var 0) (.int 0)) (.ix (.var 1) (.int 1))) (.cons (.bin .Mult (.ix (.var 0) (.int 1)) (.ix (.var 1) (.int 0))) .nil)))) .nil
noncomputable def b7:S:=.cons (.setC 1 (.comp1 2 [] "k" (.r3 (.int 0) (.bin .Sub (.len (.var 0)) (.int 1)) (.int 2)) .nil (.call 3 "plus" (.cons (.ix (.var 0) (.var 2)) (.cons (.ix (.var 0) (.bin .Add (.var 2) (.int 1))) .nil))))) (.cons (.ife (.cmp .Eq (.bin .Mod (.len (.var 0)) (.int 2)) (.int 1)) (.cons (.app 1 (.ix (.var 0) (.neg (.int 1)))) .nil) .nil) (.cons (.retOwn 1) .nil))
noncomputable def b8:S:=.cons (.set 1 (.list (.var 0))) (.cons (.whl (.cmp .Gt (.len (.var 1)) (.int 1)) (.frz 1 (.cons (.set 1 (.call 7 "neighbours_added" (.cons (.var 1) .nil))) .nil))) (.cons (.ret (.ite (.cmp .Eq (.len (.var 1)) (.int 1)) (.ix (.var 1) (.int 0)) (.glob 0 "NOUGHT"))) .nil))
noncomputable def b9:S:=.cons (.ret (.cmp .Lt (.bin .Mult (.ix (.var 0) (.int 0)) (.ix (.var 1) (.int 1))) (.bin .Mult (.ix (.var 1) (.int 0)) (.ix (.var 0) (.int 1))))) .nil
noncomputable def b10:S:=.cons (.ife (.call 9 "under" (.cons (.var 0) (.cons (.var 1) .nil))) (.cons (.ret (.var 1)) .nil) .nil) (.cons (.ife (.call 9 "under" (.cons (.var 2) (.cons (.var 0) .nil))) (.cons (.ret (.var 2)) .nil) .nil) (.cons (.ret (.var 0)) .nil))
noncomputable def b11:S:=.cons (.ret (.bin .FloorDiv (.ix (.var 0) (.int 0)) (.ix (.var 0) (.int 1)))) .nil
noncomputable def b12:S:=.cons (.ret (.call 10 "between" (.cons (.var 0) (.cons (.glob 0 "NOUGHT") (.cons (.glob 2 "ONE") .nil))))) .nil
noncomputable def b13:S:=.cons (.ret (.tup (.cons (.glob 2 "ONE") (.cons (.glob 0 "NOUGHT") (.cons (.glob 0 "NOUGHT") (.cons (.glob 0 "NOUGHT") (.cons (.glob 0 "NOUGHT") .nil))))))) .nil
noncomputable def b14:S:=.cons (.ret (.tup (.cons (.glob 0 "NOUGHT") (.cons (.glob 0 "NOUGHT") (.cons (.glob 0 "NOUGHT") (.cons (.glob 0 "NOUGHT") .nil)))))) .nil
noncomputable def b15:S:=.cons (.ret (.call 4 "minus" (.cons (.glob 2 "ONE") (.cons (.var 0) .nil)))) .nil
noncomputable def b16:S:=.cons (.ret (.tupl (.comp1 2 [] "part" (.it (.var 0)) .nil (.call 5 "times" (.cons (.var 2) (.cons (.var 1) .nil)))))) .nil
noncomputable def b17:S:=.cons (.set 2 (.call 16 "multiplied" (.cons (.var 1) (.cons (.ix (.var 0) (.int 0)) .nil)))) (.cons (.ret (.tupl (.comp1 3 [] "k" (.r1 (.int 4)) .nil (.call 3 "plus" (.cons (.ix (.var 0) (.bin .Add (.int 1) (.var 3))) (.cons (.ix (.var 2) (.var 3)) .nil)))))) .nil)
noncomputable def b18:S:=.cons (.ret (.bin .Add (.tup (.cons (.call 15 "rest_of" (.cons (.var 0) .nil)) (.cons (.var 0) .nil))) (.call 16 "multiplied" (.cons (.comp1 2 [] "part" (.it (.var 1)) .nil (.tup (.cons (.var 2) (.cons (.int 1) .nil)))) (.cons (.var 0) .nil))))) .nil
noncomputable def b19:S:=.cons (.ret (.tup (.cons (.call 15 "rest_of" (.cons (.var 0) .nil)) (.cons (.glob 0 "NOUGHT") (.cons (.glob 0 "NOUGHT") (.cons (.glob 0 "NOUGHT") (.cons (.glob 0 "NOUGHT") .nil))))))) .nil
noncomputable def b20:S:=.cons (.ret (.lzip (.var 0) (.bin .Add (.sl (.var 0) (.cons (.int 1) .nil) .nil) (.sl (.var 0) .nil (.cons (.int 1) .nil))))) .nil
noncomputable def N21:List Str:=["start","end","last"]
noncomputable def P21:List Str:=["start","end","last"]
noncomputable def b21:S:=.cons (.ife (.call 9 "under" (.cons (.var 1) (.cons (.var 0) .nil))) (.cons (.ret (.lrev (.call 21 "numbers_between" (.cons (.var 1) (.cons (.var 0) (.cons (.var 2) .nil)))))) .nil) .nil) (.cons (.ret (.comp1 3 [] "number" (.r1 (.bin .Add (.var 2) (.int 1))) (.cons (.andl (.cons (.call 9 "under" (.cons (.var 0) (.cons (.tup (.cons (.var 3) (.cons (.int 1) .nil))) .nil))) (.cons (.call 9 "under" (.cons (.tup (.cons (.var 3) (.cons (.int 1) .nil))) (.cons (.var 1) .nil))) .nil))) .nil) (.var 3))) .nil)
theorem sc21:zAV N21 P21 (zAA (top 37)):=by (walk_at "f")
theorem ck21:cSs (zAA (top 37)) N21 bs b21 (zAF (top 37))=true:=by decide +kernel
noncomputable def b22:S:=.cons (.ife (.cmp .Eq (.len (.var 0)) (.int 0)) (.cons (.ret (.lst .nil)) .nil) .nil) (.cons (.set 5 (.call 6 "parted" (.cons (.call 4 "minus" (.cons (.var 4) (.cons (.var 3) .nil))) (.cons (.call 4 "minus" (.cons (.var 2) (.cons (.var 1) .nil))) .nil)))) (.cons (.ret (.comp1 6 [] "number" (.it (.var 0)) .nil (.call 3 "plus" (.cons (.var 3) (.cons (.call 5 "times" (.cons (.var 5) (.cons (.call 4 "minus" (.cons (.tup (.cons (.var 6) (.cons (.int 1) .nil))) (.cons (.var 1) .nil))) .nil))) .nil))))) .nil))
noncomputable def b23:S:=.cons (.set 2 (.ix (.var 0) (.int 0))) (.cons (.set 3 (.ix (.var 0) (.int 1))) (.cons (.set 4 (.call 21 "numbers_between" (.cons (.ix (.var 2) (.int 0)) (.cons (.ix (.var 3) (.int 0)) (.cons (.var 1) .nil))))) (.frz 4 (.cons (.set 5 (.call 22 "rests_at" (.cons (.var 4) (.cons (.ix (.var 2) (.int 0)) (.cons (.ix (.var 3) (.int 0)) (.cons (.ix (.var 2) (.int 1)) (.cons (.ix (.var 3) (.int 1)) .nil))))))) (.frz 4 (.frz 5 (.cons (.ret (.comp1 6 [] "k" (.r1 (.len (.var 4))) .nil (.tup (.cons (.tup (.cons (.ix (.var 4) (.var 6)) (.cons (.int 1) .nil))) (.cons (.ix (.var 5) (.var 6)) .nil))))) .nil)))))))
noncomputable def b24:S:=.cons (.set 2 (.ix (.var 0) (.int 0))) (.cons (.set 3 (.ix (.var 0) (.int 1))) (.cons (.set 4 (.call 21 "numbers_between" (.cons (.ix (.var 2) (.int 1)) (.cons (.ix (.var 3) (.int 1)) (.cons (.var 1) .nil))))) (.frz 4 (.cons (.set 5 (.call 22 "rests_at" (.cons (.var 4) (.cons (.ix (.var 2) (.int 1)) (.cons (.ix (.var 3) (.int 1)) (.cons (.ix (.var 2) (.int 0)) (.cons (.ix (.var 3) (.int 0)) .nil))))))) (.frz 4 (.frz 5 (.cons (.ret (.comp1 6 [] "k" (.r1 (.len (.var 4))) .nil (.tup (.cons (.ix (.var 5) (.var 6)) (.cons (.tup (.cons (.ix (.var 4) (.var 6)) (.cons (.int 1) .nil))) .nil))))) .nil)))))))
noncomputable def b25:S:=.cons (.ife (.var 2) (.cons (.ret (.call 9 "under" (.cons (.ix (.var 0) (.int 0)) (.cons (.ix (.var 1) (.int 0)) .nil)))) .nil) .nil) (.cons (.ret (.call 9 "under" (.cons (.ix (.var 1) (.int 0)) (.cons (.ix (.var 0) (.int 0)) .nil)))) .nil)
noncomputable def b26:S:=.cons (.set 3 (.lst .nil)) (.cons (.set 4 (.int 0)) (.cons (.for1 5 (.it (.var 0)) (.cons (.whl (.andl (.cons (.cmp .Lt (.var 4) (.len (.var 1))) (.cons (.call 25 "comes_ahead" (.cons (.ix (.var 1) (.var 4)) (.cons (.var 5) (.cons (.var 2) .nil)))) .nil))) (.cons (.app 3 (.ix (.var 1) (.var 4))) (.cons (.aug .Add 4 (.int 1)) .nil))) (.cons (.ife (.andl (.cons (.cmp .Lt (.var 4) (.len (.var 1))) (.cons (.cmp .Eq (.ix (.var 1) (.var 4)) (.var 5)) .nil))) (.cons (.aug .Add 4 (.int 1)) .nil) .nil) (.cons (.app 3 (.var 5)) .nil)))) (.cons (.ret (.bin .Add (.var 3) (.sl (.var 1) (.cons (.var 4) .nil) .nil))) .nil)))
noncomputable def b27:S:=.cons (.set 3 (.ix (.var 2) (.int 0))) (.cons (.set 4 (.ix (.var 2) (.int 1))) (.cons (.set 5 (.call 26 "made_one" (.cons (.call 23 "upright_crossings" (.cons (.var 2) (.cons (.var 0) .nil))) (.cons (.call 24 "level_crossings" (.cons (.var 2) (.cons (.var 1) .nil))) (.cons (.call 9 "under" (.cons (.ix (.var 3) (.int 0)) (.cons (.ix (.var 4) (.int 0)) .nil))) .nil))))) (.frz 4 (.frz 3 (.cons (.ret (.bin .Add (.bin .Add (.lst (.cons (.var 3) .nil)) (.var 5)) (.lst (.cons (.var 4) .nil)))) .nil)))))
noncomputable def b28:S:=.cons (.ret (.call 5 "times" (.cons (.glob 1 "HALF") (.cons (.call 3 "plus" (.cons (.var 0) (.cons (.var 1) .nil))) .nil)))) .nil
noncomputable def b29:S:=.cons (.set 2 (.call 11 "whole_part" (.cons (.call 28 "middle" (.cons (.ix (.var 0) (.int 0)) (.cons (.ix (.var 1) (.int 0)) .nil))) .nil))) (.cons (.set 3 (.call 11 "whole_part" (.cons (.call 28 "middle" (.cons (.ix (.var 0) (.int 1)) (.cons (.ix (.var 1) (.int 1)) .nil))) .nil))) (.cons (.ret (.tup (.cons (.max (.var 2) (.neg (.int 1))) (.cons (.var 3) (.cons (.var 0) (.cons (.var 1) .nil)))))) .nil))
noncomputable def b30:S:=.cons (.ret (.andl (.cons (.cmp .Lt (.ix (.var 2) (.int 0)) (.var 0)) (.cons (.chn .LtE .Lt (.int 0) (.ix (.var 2) (.int 1)) (.var 1)) .nil)))) .nil
noncomputable def b31:S:=.cons (.ife (.cmp .Eq (.ix (.var 2) (.int 0)) (.ix (.var 2) (.int 1))) (.cons (.ret (.lst .nil)) .nil) .nil) (.cons (.set 3 (.call 27 "stops" (.cons (.var 0) (.cons (.var 1) (.cons (.var 2) .nil))))) (.frz 3 (.cons (.setC 4 (.comp1 5 [] "k" (.r1 (.bin .Sub (.len (.var 3)) (.int 1))) .nil (.call 29 "piece_between" (.cons (.ix (.var 3) (.var 5)) (.cons (.ix (.var 3) (.bin .Add (.var 5) (.int 1))) .nil))))) (.frz 4 (.cons (.ret (.comp1 5 [] "part" (.it (.var 4)) (.cons (.call 30 "counts_on" (.cons (.var 0) (.cons (.var 1) (.cons (.var 5) .nil)))) .nil) (.var 5))) .nil)))))
noncomputable def b32:S:=.cons (.ret (.call 4 "minus" (.cons (.ix (.ix (.var 0) (.int 2)) (.int 1)) (.cons (.ix (.ix (.var 0) (.int 3)) (.int 1)) .nil)))) .nil
noncomputable def b33:S:=.cons (.set 1 (.ix (.var 0) (.int 0))) (.cons (.ife (.cmp .Eq (.var 1) (.neg (.int 1))) (.cons (.ret (.glob 0 "NOUGHT")) .nil) .nil) (.cons (.ret (.call 5 "times" (.cons (.call 32 "fall" (.cons (.var 0) .nil)) (.cons (.call 4 "minus" (.cons (.tup (.cons (.bin .Add (.var 1) (.int 1)) (.cons (.int 1) .nil))) (.cons (.call 28 "middle" (.cons (.ix (.ix (.var 0) (.int 2)) (.int 0)) (.cons (.ix (.ix (.var 0) (.int 3)) (.int 0)) .nil))) .nil))) .nil)))) .nil))
noncomputable def mb34:MT:=.cons (.ret (.comp 1 [] "k" (.rng (.var 0)) (.lst .nil))) .nil
noncomputable def b34:S:=.cons (.ret (.comp1 1 [] "k" (.r1 (.var 0)) .nil (.lst .nil))) .nil
noncomputable def b35:S:=.cons (.set 3 (.lst .nil)) (.cons (.for1 4 (.it (.var 2)) (.cons (.for1 5 (.it (.call 20 "sides" (.cons (.var 4) .nil))) (.cons (.ext 3 (.call 31 "pieces" (.cons (.var 0) (.cons (.var 1) (.cons (.var 5) .nil))))) .nil)) .nil)) (.cons (.retOwn 3) .nil))
noncomputable def b36:S:=.cons (.set 2 (.lst .nil)) (.cons (.set 3 (.glob 0 "NOUGHT")) (.cons (.for1 4 (.r1 (.bin .Sub (.len (.var 0)) (.int 1))) (.cons (.set 3 (.call 3 "plus" (.cons (.var 3) (.cons (.call 8 "total" (.cons (.ix (.var 0) (.var 4)) .nil)) .nil)))) (.cons (.app 2 (.call 3 "plus" (.cons (.var 3) (.cons (.call 8 "total" (.cons (.ix (.var 1) (.bin .Add (.var 4) (.int 1))) .nil)) .nil)))) .nil))) (.cons (.retOwn 2) .nil)))
noncomputable def mb37:MT:=.cons (.setC 3 (.comp 7 [] "row" (.rng (.var 1)) (.call 1 "empty_lists" (.cons (.pur (.bin .Add (.var 0) (.int 1))) .nil)))) (.cons (.setC 4 (.comp 7 [] "row" (.rng (.var 1)) (.call 1 "empty_lists" (.cons (.pur (.bin .Add (.var 0) (.int 1))) .nil)))) (.cons (.for1 5 (.it (.pur (.call 35 "all_pieces" (.cons (.var 0) (.cons (.var 1) (.cons (.var 2) .nil)))))) (.cons (.set 6 (.pur (.bin .Add (.ix (.var 5) (.int 0)) (.int 1)))) (.cons (.app (.ix (.ix (.var 3) (.ix (.var 5) (.pur (.int 1)))) (.var 6)) (.pur (.call 32 "fall" (.cons (.var 5) .nil)))) (.cons (.app (.ix (.ix (.var 4) (.ix (.var 5) (.pur (.int 1)))) (.var 6)) (.pur (.call 33 "right" (.cons (.var 5) .nil)))) .nil)))) (.cons (.ret (.comp 7 [] "row" (.rng (.var 1)) (.pur (.call 36 "row_of_shares" (.cons (.ix (.var 3) (.var 7)) (.cons (.ix (.var 4) (.var 7)) .nil)))))) .nil)))
noncomputable def mb38:MT:=.cons (.ret (.comp 1 [] "ring" (.it (.var 0)) (.pur (.list (.var 1))))) .nil
noncomputable def b39:S:=.cons (.ret (.ite (.cmp .Is (.var 0) .non) (.glob 2 "ONE") (.var 0))) .nil
noncomputable def mb40:MT:=.cons (.ret (.comp 2 [] "row" (.it (.var 0)) (.comp 3 [] "one" (.it (.var 2)) (.pur (.callv 1 (.var 3)))))) .nil
noncomputable def mb41:MT:=.cons (.ret (.call 4 "each_changed" (.cons (.call 2 "shares" (.cons (.var 0) (.cons (.var 1) (.cons (.var 2) .nil)))) (.cons (.pur (.glob 3 "cover")) .nil)))) .nil
noncomputable def N42:List Str:=["width","height","shape","strength"]
noncomputable def P42:List Str:=["width","height","shape","strength"]
theorem sc42:zAV N42 P42 (zAA (top 60)):=by (walk_at "f")
noncomputable def mb43:MT:=.cons (.set 1 (.lst .nil)) (.cons (.for1 2 (.rng (.pur (.len (.var 0)))) (.cons (.for1 3 (.rng (.pur (.len (.ix (.var 0) (.var 2))))) (.cons (.ife (.pur (.cmp .NotEq (.ix (.ix (.var 0) (.var 2)) (.var 3)) (.call 13 "clear_film" .nil))) (.cons (.app (.var 1) (.tup (.cons (.var 3) (.cons (.var 2) .nil)))) .nil) .nil) .nil)) .nil)) (.cons (.ret (.var 1)) .nil))
noncomputable def b44:S:=zPq
noncomputable def b45:S:=zGW
noncomputable def N46:List Str:=["_law_deed","e","_law_kinds"]
noncomputable def P46:List Str:=["_law_deed"]
theorem sc46:zAV N46 P46 (zAA (top 72)):=by (walk_at "f")
noncomputable def b47:S:=.cons (.setC 3 (.comp1 5 [] "_law_number" (.r1 (.var 2)) (.cons (.cmp .NotIn (.var 5) (.var 1)) .nil) (.var 5))) (.cons (.set 4 (.bin .Add (.lst (.cons (.bin .Sub (.neg (.int 1)) (.bin .Mod (.var 0) (.int 3))) (.cons (.var 2) (.cons (.bin .Add (.var 2) (.bin .Mod (.var 0) (.bin .Pow (.int 10) (.int 29)))) .nil)))) (.var 3))) (.cons (.ret (.ix (.var 4) (.bin .Mod (.bin .FloorDiv (.var 0) (.int 5)) (.len (.var 4))))) .nil))
noncomputable def mb48:MT:=.cons (.set 5 (.pur (.call 47 "_law_strange" (.cons (.bin .FloorDiv (.var 1) (.int 12)) (.cons (.var 2) (.cons (.var 3) .nil)))))) (.cons (.ife (.pur (.andl (.cons (.cmp .Gt (.bin .Mod (.var 1) (.int 3)) (.int 0)) (.cons (.cmp .Gt (.len (.var 2)) (.int 0)) .nil)))) (.cons (.set 5 (.ix (.var 2) (.pur (.bin .Mod (.bin .FloorDiv (.var 1) (.int 12)) (.len (.var 2)))))) .nil) .nil) (.cons (.set 6 (.lst (.cons (.pur (.bin .Sub (.neg (.int 1)) (.bin .Mod (.var 1) (.int 4)))) (.cons (.pur (.len (.var 2))) (.cons (.pur (.bin .Add (.len (.var 2)) (.bin .Mod (.var 1) (.bin .Pow (.int 10) (.int 29))))) .nil))))) (.cons (.set 7 (.ix (.var 6) (.pur (.bin .Mod (.bin .FloorDiv (.var 1) (.int 36)) (.int 3))))) (.cons (.ife (.pur (.cmp .Eq (.bin .Mod (.var 1) (.int 3)) (.int 0))) (.cons (.set 8 (.lst (.cons (.tup (.cons (.var 0) (.cons (.pur (.str "drop")) (.cons (.var 5) .nil)))) (.cons (.tup (.cons (.var 0) (.cons (.pur (.str "change")) (.cons (.var 5) (.cons (.var 4) .nil))))) (.cons (.tup (.cons (.var 0) (.cons (.pur (.str "lift")) (.cons (.var 5) (.cons (.var 7) .nil))))) .nil))))) (.cons (.ret (.or2 (.cmp .Eq (.call 21 "_law_refusal" (.cons (.ix (.var 8) (.pur (.bin .Mod (.bin .FloorDiv (.var 1) (.int 3)) (.int 3)))) .nil)) (.pur (.str "layer"))) (.pur (.cmp .In (.var 5) (.var 2))))) .nil)) .nil) (.cons (.ife (.pur (.cmp .NotIn (.var 5) (.var 2))) (.cons (.ret (.cmp .Eq (.call 21 "_law_refusal" (.cons (.tup (.cons (.var 0) (.cons (.pur (.str "lift")) (.cons (.var 5) (.cons (.var 7) .nil))))) .nil)) (.pur (.str "layer")))) .nil) .nil) (.cons (.ife (.pur (.cmp .Eq (.bin .Mod (.var 1) (.int 3)) (.int 1))) (.cons (.ret (.cmp .Eq (.call 21 "_law_refusal" (.cons (.tup (.cons (.var 0) (.cons (.pur (.str "lift")) (.cons (.var 5) (.cons (.var 7) .nil))))) .nil)) (.pur (.str "place")))) .nil) .nil) (.cons (.ret (.cmp .Eq (.call 21 "_law_refusal" (.cons (.tup (.cons (.var 0) (.cons (.pur (.str "lift")) (.cons (.var 5) (.cons (.idx (.var 2) (.var 5)) .nil))))) .nil)) (.pur (.str "")))) .nil)))))))
noncomputable def N49:List Str:=["_law_script","_law_width","_law_height","_law_box","_law_layer","_law_picture","_law_bits","_law_given","_law_k","_law_due","_law_cells","_law_cell_here"]
noncomputable def P49:List Str:=["_law_script"]
noncomputable def mb49:MT:=.cons (.set 1 (.pur (.bin .Add (.int 1) (.bin .Mod (.call 44 "_law_cell" (.cons (.var 0) (.cons (.int 0) .nil))) (.int 3))))) (.cons (.set 2 (.pur (.bin .Add (.int 1) (.bin .Mod (.call 44 "_law_cell" (.cons (.var 0) (.cons (.int 1) .nil))) (.int 2))))) (.cons (.set 3 (.lst (.cons (.lst (.cons (.pur (.tup (.cons (.tup (.cons (.int 0) (.cons (.int 1) .nil))) (.cons (.tup (.cons (.int 0) (.cons (.int 1) .nil))) .nil)))) (.cons (.pur (.tup (.cons (.tup (.cons (.int 2) (.cons (.int 1) .nil))) (.cons (.tup (.cons (.int 0) (.cons (.int 1) .nil))) .nil)))) (.cons (.pur (.tup (.cons (.tup (.cons (.int 2) (.cons (.int 1) .nil))) (.cons (.tup (.cons (.int 2) (.cons (.int 1) .nil))) .nil)))) (.cons (.pur (.tup (.cons (.tup (.cons (.int 0) (.cons (.int 1) .nil))) (.cons (.tup (.cons (.int 2) (.cons (.int 1) .nil))) .nil)))) .nil))))) .nil))) (.cons (.set 4 (.mk 8 "Fill" "strength" true (.cons (.var 3) (.cons (.pur (.tup (.cons (.int 255) (.cons (.int 0) (.cons (.int 7) .nil))))) .nil)))) (.cons (.set 5 (.mk 11 "Picture" "watcher" true (.cons (.var 1) (.cons (.var 2) .nil)))) (.cons (.set 6 (.pur (.call 44 "_law_cell" (.cons (.var 0) (.cons (.int 2) .nil))))) (.cons (.set 7 (.pur (.bin .Mod (.var 6) (.int 7)))) (.cons (.for1 8 (.rng (.var 7)) (.cons (.drop (.mth [("Picture",15)] "add" (.var 5) (.cons (.var 4) .nil))) .nil)) (.cons (.set 9 (.lst .nil)) (.cons (.for1 8 (.rng (.var 7)) (.cons (.ife (.pur (.cmp .Eq (.bin .Mod (.bin .FloorDiv (.bin .FloorDiv (.var 6) (.int 7)) (.ix (.lst (.cons (.int 1) (.cons (.int 2) (.cons (.int 4) (.cons (.int 8) (.cons (.int 16) (.cons (.int 32) .nil))))))) (.var 8))) (.int 2)) (.int 0))) (.cons (.app (.var 9) (.var 8)) .nil) (.cons (.drop (.mth [("Picture",16)] "drop" (.var 5) (.cons (.var 8) .nil))) .nil)) .nil)) (.cons (.drop (.mth [("Picture",20)] "renew" (.var 5) .nil)) (.cons (.set 10 (.pur (.bin .Add (.lst (.cons (.call 44 "_law_cell" (.cons (.var 0) (.cons (.int 3) .nil))) (.cons (.call 44 "_law_cell" (.cons (.var 0) (.cons (.int 4) .nil))) .nil))) (.sl (.var 0) (.cons (.int 3) .nil) (.cons (.int 33) .nil))))) (.cons (.for1 8 (.rng (.pur (.len (.var 10)))) (.cons (.set 11 (.pur (.call 45 "_law_spread" (.cons (.ix (.var 10) (.var 8)) (.cons (.var 8) .nil))))) (.cons (.ife (.not (.call 22 "_law_tried" (.cons (.var 5) (.cons (.var 11) (.cons (.var 9) (.cons (.var 7) (.cons (.mk 9 "Rub" "strength" true (.cons (.lst .nil) .nil)) .nil))))))) (.cons (.ret (.pur (.bl false))) .nil) .nil) (.cons (.ife (.orl (.cons (.cmp .NotEq (.mth [("Picture",18)] "numbers" (.var 5) .nil) (.var 9)) (.cons (.cmp .NotEq (.mth [("Picture",20)] "renew" (.var 5) .nil) (.lst .nil)) .nil))) (.cons (.ret (.pur (.bl false))) .nil) .nil) .nil)))) (.cons (.ret (.pur (.bl true))) .nil)))))))))))))
theorem zSt:cSs' (zAA (top 75)) N49 bs mb49 (zAF (top 75))=true:=by decide +kernel
theorem sc49:zAV N49 P49 (zAA (top 75)):=by (walk_at "f")
noncomputable def zGR:List Str:=["self","shape","ink","strength"]
noncomputable def zCf:List Str:=["self","shape","ink","strength"]
theorem zHz:zAV zGR zCf (zAA (zAG (top 64) 0)):=by (walk_at "f")
noncomputable def zDH:List (Str×ME):=[("shape",(.call 3 "own_shape" (.cons (.var 1) .nil))),("ink",(.var 2)),("strength",(.pur (.call 39 "strength_or_one" (.cons (.var 3) .nil))))]
theorem zGr:zG4 (zAA (zAG (top 64) 0)) zGR bs "self" zDH (zAF (zAG (top 64) 0))=true:=by decide +kernel
noncomputable def zHr:List Str:=["self","shape","strength"]
noncomputable def zC8:List Str:=["self","shape","strength"]
theorem zIr:zAV zHr zC8 (zAA (zAG (top 65) 0)):=by (walk_at "f")
noncomputable def zD4:List (Str×ME):=[("shape",(.call 3 "own_shape" (.cons (.var 1) .nil))),("strength",(.pur (.call 39 "strength_or_one" (.cons (.var 2) .nil))))]
theorem zIJ:zG4 (zAA (zAG (top 65) 0)) zHr bs "self" zD4 (zAF (zAG (top 65) 0))=true:=by decide +kernel
noncomputable def zBN:List Str:=["self","width","height","thinned"]
noncomputable def zCg:List Str:=["self","width","height"]
theorem zEx:zAV zBN zCg (zAA (zAG (top 64) 1)):=by (walk_at "f")
noncomputable def zDW:List Str:=["self","width","height","watcher"]
noncomputable def zBd:List Str:=["self","width","height","watcher"]
theorem zEw:zAV zDW zBd (zAA (zAG (top 67) 0)):=by (walk_at "f")
noncomputable def zCJ:List (Str×ME):=[("width",(.var 1)),("height",(.var 2)),("watcher",(.var 3)),("order",(.lst .nil)),("layers",(.dnew false)),("laid",(.dnew false)),("count",(.pur (.int 0))),("marks",(.dnew true)),("grounds",(.comp 4 [] "row" (.rng (.var 2)) (.comp 5 [] "column" (.rng (.var 1)) (.pur (.call 14 "clear_ground" .nil)))))]
theorem zEQ:zG4 (zAA (zAG (top 67) 0)) zDW bs "self" zCJ (zAF (zAG (top 67) 0))=true:=by decide +kernel
noncomputable def zAf:MT:=.cons (.ife (.nid (.var 1) (.fld (.var 0) "layers")) (.cons (.rse "NoLayer" (.str "no layer lies by this number")) .nil) .nil) .nil
noncomputable def zCZ:MT:=.cons (.for1 2 (.it (.call 7 "touched_cells" (.cons (.dix (.fld (.var 0) "laid") (.var 1)) .nil))) (.cons (.dput (.fld (.var 0) "marks") (.var 2) (.pur (.bl true))) .nil)) .nil
noncomputable def zEO:MT:=.cons (.dput (.fld (.var 0) "layers") (.var 1) (.var 2)) (.cons (.dput (.fld (.var 0) "laid") (.var 1) (.var 3)) (.cons (.drop (.mth [("Picture",13)] "mark" (.var 0) (.cons (.var 1) .nil))) .nil))
noncomputable def zEP:MT:=.cons (.set 2 (.fld (.var 0) "count")) (.cons (.drop (.mth [("Picture",14)] "lay" (.var 0) (.cons (.var 2) (.cons (.var 1) (.cons (.mth [("Fill",10)] "films" (.var 1) (.cons (.fld (.var 0) "width") (.cons (.fld (.var 0) "height") .nil))) .nil))))) (.cons (.app (.fld (.var 0) "order") (.var 2)) (.cons (.faug (.var 0) "count" (.pur (.int 1))) (.cons (.ret (.var 2)) .nil))))
noncomputable def zBQ:MT:=.cons (.drop (.mth [("Picture",12)] "check_lies" (.var 0) (.cons (.var 1) .nil))) (.cons (.drop (.mth [("Picture",13)] "mark" (.var 0) (.cons (.var 1) .nil))) (.cons (.rem (.fld (.var 0) "order") (.var 1)) (.cons (.drop (.dpop (.fld (.var 0) "layers") (.var 1))) (.cons (.drop (.dpop (.fld (.var 0) "laid") (.var 1))) .nil))))
noncomputable def zAu:MT:=.cons (.drop (.mth [("Picture",12)] "check_lies" (.var 0) (.cons (.var 1) .nil))) (.cons (.ife (.orl (.cons (.pur (.cmp .Lt (.var 2) (.int 0))) (.cons (.cmp .GtE (.var 2) (.len (.fld (.var 0) "order"))) .nil))) (.cons (.rse "NoPlace" (.str "a place is from 0 to how many other layers there are")) .nil) .nil) (.cons (.ife (.cmp .Eq (.var 2) (.idx (.fld (.var 0) "order") (.var 1))) (.cons .retN .nil) .nil) (.cons (.rem (.fld (.var 0) "order") (.var 1)) (.cons (.ins (.fld (.var 0) "order") (.var 2) (.var 1)) (.cons (.drop (.mth [("Picture",13)] "mark" (.var 0) (.cons (.var 1) .nil))) .nil)))))
noncomputable def zB4:MT:=.cons (.ret (.lcp (.fld (.var 0) "order"))) .nil
noncomputable def zBg:MT:=.cons (.set 3 (.pur (.call 14 "clear_ground" .nil))) (.cons (.for1 4 (.it (.fld (.var 0) "order")) (.cons (.set 3 (.call 0 "seen" (.cons (.ix (.ix (.dix (.fld (.var 0) "laid") (.var 4)) (.var 2)) (.var 1)) (.cons (.var 3) .nil)))) .nil)) (.cons (.ret (.var 3)) .nil))
noncomputable def zBy:List Str:=["self","touched","cell"]
noncomputable def zCe:List Str:=["self"]
theorem zDY:zAV zBy zCe (zAA (zAG (top 67) 7)):=by (walk_at "f")
noncomputable def zCC:MT:=.cons (.drop (.mth [("Picture",12)] "check_lies" (.var 0) (.cons (.var 1) .nil))) (.cons (.set 3 (.mth [("Fill",10)] "films" (.var 2) (.cons (.fld (.var 0) "width") (.cons (.fld (.var 0) "height") .nil)))) (.cons (.drop (.mth [("Picture",13)] "mark" (.var 0) (.cons (.var 1) .nil))) (.cons (.drop (.mth [("Picture",14)] "lay" (.var 0) (.cons (.var 1) (.cons (.var 2) (.cons (.var 3) .nil))))) .nil)))
noncomputable def mp0:MT:=.nil
noncomputable def me0:ME:=(.call 5 "covers" (.cons (.var 0) (.cons (.var 1) (.cons (.var 2) .nil))))
theorem pck0:cPre (zAA (top 60)) N42 bs mp0 (zAF (top 60)).dropLast=true:=by decide +kernel
theorem eck0:cM me0 (zAA (top 60)) N42 bs (zHT (top 60))=true:=by decide +kernel
noncomputable def mp1:MT:=(.cons (.set 3 (.call 6 "thinned_covers" (.cons (.var 1) (.cons (.var 2) (.cons (.fld (.var 0) "shape") (.cons (.fld (.var 0) "strength") .nil)))))) .nil)
noncomputable def me1:ME:=(.var 3)
theorem pck1:cPre (zAA (zAG (top 64) 1)) zBN bs mp1 (zAF (zAG (top 64) 1)).dropLast=true:=by decide +kernel
theorem eck1:cM me1 (zAA (zAG (top 64) 1)) zBN bs (zHT (zAG (top 64) 1))=true:=by decide +kernel
noncomputable def me2:ME:=.fld (.var 0) "marks"
noncomputable def mr2:MT:=.cons (.fput (.var 0) "marks" (.dnew true)) (.cons (.for1 2 (.it (.var 1)) (.cons (.put (.ix (.fld (.var 0) "grounds") (.ix (.var 2) (.pur (.int 1)))) (.ix (.var 2) (.pur (.int 0))) (.mth [("Picture",19)] "ground_at" (.var 0) (.cons (.ix (.var 2) (.pur (.int 0))) (.cons (.ix (.var 2) (.pur (.int 1))) .nil)))) .nil)) (.cons (.ife (.cmp .IsNot (.fld (.var 0) "watcher") (.pur .non)) (.cons .never .nil) .nil) (.cons (.ret (.var 1)) .nil)))
theorem eck2:cM me2 (zAA (zAG (top 67) 7)) zBy bs (zIm (zAG (top 67) 7))=true:=by decide +kernel
theorem rck2:cSs' (zAA (zAG (top 67) 7)) zBy bs mr2 (zAF (zAG (top 67) 7)).tail=true:=by decide +kernel
noncomputable def G0:Gm:=⟨[],[("NOUGHT",.tup [.int 0,.int 1]),("HALF",.tup [.int 1,.int 2]),("ONE",.tup [.int 1,.int 1]),("cover",.fn 12 "cover"),("rub_film",.fn 19 "rub_film")],[],[("NoLayer","CoverError",true),("NoPlace","CoverError",true),("NoLayer","NoRatio",false),("NoPlace","NoRatio",false),("NoLayer","NoText",false),("NoPlace","NoText",false),("NoLayer","NoRow",false),("NoPlace","NoRow",false),("NoLayer","NoName",false),("NoPlace","NoName",false),("NoLayer","NoCell",false),("NoPlace","NoCell",false),("NoLayer","ValueError",true),("NoPlace","ValueError",true),("NoLayer","NoLayer",true),("NoPlace","NoLayer",false),("NoLayer","NoPlace",false),("NoPlace","NoPlace",true)],["NoLayer","NoPlace"],[],[("Fill","shape",none),("Fill","ink",none),("Fill","strength",none),("Rub","shape",none),("Rub","strength",none),("Picture","width",none),("Picture","height",none),("Picture","watcher",none),("Picture","order",none),("Picture","layers",none),("Picture","laid",none),("Picture","count",none),("Picture","marks",none),("Picture","grounds",none)]⟩
def F0:List D->Option R:=dFun 1 1 (evSs G0 b0)
def G1:Gm:=G0.add "_wall" F0
def F1:List D->Option R:=dFun 2 3 (evSs G1 b1)
def G2:Gm:=G1.add "common_measure" F1
def F2:List D->Option R:=dFun 2 3 (evSs G2 b2)
def G3:Gm:=G2.add "ratio" F2
def F3:List D->Option R:=dFun 2 2 (evSs G3 b3)
def G4:Gm:=G3.add "plus" F3
def F4:List D->Option R:=dFun 2 2 (evSs G4 b4)
def G5:Gm:=G4.add "minus" F4
def F5:List D->Option R:=dFun 2 2 (evSs G5 b5)
def G6:Gm:=G5.add "times" F5
def F6:List D->Option R:=dFun 2 2 (evSs G6 b6)
def G7:Gm:=G6.add "parted" F6
def F7:List D->Option R:=dFun 1 2 (evSs G7 b7)
def G8:Gm:=G7.add "neighbours_added" F7
def F8:List D->Option R:=dFun 1 2 (evSs G8 b8)
def G9:Gm:=G8.add "total" F8
def F9:List D->Option R:=dFun 2 2 (evSs G9 b9)
def G10:Gm:=G9.add "under" F9
def F10:List D->Option R:=dFun 3 3 (evSs G10 b10)
def G11:Gm:=G10.add "between" F10
def F11:List D->Option R:=dFun 1 1 (evSs G11 b11)
def G12:Gm:=G11.add "whole_part" F11
def F12:List D->Option R:=dFun 1 1 (evSs G12 b12)
def G13:Gm:=G12.add "cover" F12
def F13:List D->Option R:=dFun 0 0 (evSs G13 b13)
def G14:Gm:=G13.add "clear_film" F13
def F14:List D->Option R:=dFun 0 0 (evSs G14 b14)
def G15:Gm:=G14.add "clear_ground" F14
def F15:List D->Option R:=dFun 1 1 (evSs G15 b15)
def G16:Gm:=G15.add "rest_of" F15
def F16:List D->Option R:=dFun 2 2 (evSs G16 b16)
def G17:Gm:=G16.add "multiplied" F16
def F17:List D->Option R:=dFun 2 3 (evSs G17 b17)
def G18:Gm:=G17.add "seen" F17
def F18:List D->Option R:=dFun 2 2 (evSs G18 b18)
def G19:Gm:=G18.add "ink_film" F18
def F19:List D->Option R:=dFun 1 1 (evSs G19 b19)
def G20:Gm:=G19.add "rub_film" F19
def F20:List D->Option R:=dFun 1 1 (evSs G20 b20)
def G21:Gm:=G20.add "sides" F20
def zSR:Gm:=G21.add "numbers_between" (λ_=>none)
def zTJ:List D->Option R:=dFun 3 3 (evSs zSR b21)
def zSQ:Gm:=G21.add "numbers_between" zTJ
def F21:List D->Option R:=dFun 3 3 (evSs zSQ b21)
def G22:Gm:=G21.add "numbers_between" F21
def F22:List D->Option R:=dFun 5 6 (evSs G22 b22)
def G23:Gm:=G22.add "rests_at" F22
def F23:List D->Option R:=dFun 2 6 (evSs G23 b23)
def G24:Gm:=G23.add "upright_crossings" F23
def F24:List D->Option R:=dFun 2 6 (evSs G24 b24)
def G25:Gm:=G24.add "level_crossings" F24
def F25:List D->Option R:=dFun 3 3 (evSs G25 b25)
def G26:Gm:=G25.add "comes_ahead" F25
def F26:List D->Option R:=dFun 3 6 (evSs G26 b26)
def G27:Gm:=G26.add "made_one" F26
def F27:List D->Option R:=dFun 3 6 (evSs G27 b27)
def G28:Gm:=G27.add "stops" F27
def F28:List D->Option R:=dFun 2 2 (evSs G28 b28)
def G29:Gm:=G28.add "middle" F28
def F29:List D->Option R:=dFun 2 4 (evSs G29 b29)
def G30:Gm:=G29.add "piece_between" F29
def F30:List D->Option R:=dFun 3 3 (evSs G30 b30)
def G31:Gm:=G30.add "counts_on" F30
def F31:List D->Option R:=dFun 3 5 (evSs G31 b31)
def G32:Gm:=G31.add "pieces" F31
def F32:List D->Option R:=dFun 1 1 (evSs G32 b32)
def G33:Gm:=G32.add "fall" F32
def F33:List D->Option R:=dFun 1 2 (evSs G33 b33)
def G34:Gm:=G33.add "right" F33
def F34:List D->Option R:=dFun 1 1 (evSs G34 b34)
def G35:Gm:=G34.add "empty_lists" F34
def F35:List D->Option R:=dFun 3 6 (evSs G35 b35)
def G36:Gm:=G35.add "all_pieces" F35
def F36:List D->Option R:=dFun 2 5 (evSs G36 b36)
def G37:Gm:=G36.add "row_of_shares" F36
noncomputable def F37:List D->Option R:=λ_=>none
def G38:Gm:=G37.add "shares" F37
noncomputable def F38:List D->Option R:=λ_=>none
def G39:Gm:=G38.add "own_shape" F38
def F39:List D->Option R:=dFun 1 1 (evSs G39 b39)
def G40:Gm:=G39.add "strength_or_one" F39
noncomputable def F40:List D->Option R:=λ_=>none
def G41:Gm:=G40.add "each_changed" F40
noncomputable def F41:List D->Option R:=λ_=>none
def G42:Gm:=G41.add "covers" F41
noncomputable def F42:List D->Option R:=λ_=>none
def G43:Gm:=G42.add "thinned_covers" F42
noncomputable def F43:List D->Option R:=λ_=>none
def G44:Gm:=G43.add "touched_cells" F43
def F44:List D->Option R:=dFun 2 4 (evSs G44 b44)
def G45:Gm:=G44.add "_law_cell" F44
def F45:List D->Option R:=dFun 2 2 (evSs G45 b45)
def G46:Gm:=G45.add "_law_spread" F45
noncomputable def F46:List D->Option R:=λ_=>none
def G47:Gm:=G46.add "_law_refusal" F46
def F47:List D->Option R:=dFun 3 5 (evSs G47 b47)
def G48:Gm:=G47.add "_law_strange" F47
noncomputable def F48:List D->Option R:=λ_=>none
def G49:Gm:=G48.add "_law_tried" F48
noncomputable def L0:LamI:=zRA "thinned_covers" (top 60)
noncomputable def lb0:E:=.call 5 "times" (.cons (.var 0) (.cons (.var 1) .nil))
theorem lsc0:zGS "s" ["strength"] L0/\frN L0=(["strength"]:List Str):=zFD rfl λ_ _ _ _ _=>rfl
theorem lck0:cE lb0 L0.scope ("s"::["strength"]) bs L0.body=true:=rfl
def FL0:List D->Option R:=lamD 1 (evE G49 lb0)
def GL0:Gm:=G49.addL L0 FL0
noncomputable def L1:LamI:=zRA "Fill.films" (zAG (top 64) 1)
noncomputable def lb1:E:=.call 18 "ink_film" (.cons (.var 0) (.cons (.fld (.var 1) "ink") .nil))
theorem lsc1:zGS "s" ["self"] L1/\frN L1=(["self"]:List Str):=zFD rfl λ_ _ _ _ _=>rfl
theorem lck1:cE lb1 L1.scope ("s"::["self"]) bs L1.body=true:=rfl
def FL1:List D->Option R:=lamD 1 (evE GL0 lb1)
def GL1:Gm:=GL0.addL L1 FL1
noncomputable def L2:LamI:=zQ9 "Picture.renew" (zAG (top 67) 7)
noncomputable def lb2:E:=.tup (.cons (.ix (.var 0) (.int 1)) (.cons (.ix (.var 0) (.int 0)) .nil))
theorem lsc2:zGS "cell" [] L2/\frN L2=([]:List Str):=zFD (by decide +kernel) λ_ _ _ _ _=>rfl
theorem lck2:cE lb2 L2.scope ("cell"::[]) bs L2.body=true:=by decide +kernel
def FL2:List D->Option R:=lamD 0 (evE GL1 lb2)
def GL2:Gm:=GL1.addL L2 FL2
def D0:Dm:=[(("seen":Str),zIG F17)]
def FM34:MF:=zAv 1 1 (evSs' GL2 D0 mb34)
def D1:Dm:=D0.add "empty_lists" FM34
def FM37:MF:=zAv 3 7 (evSs' GL2 D1 mb37)
def D2:Dm:=D1.add "shares" FM37
def FM38:MF:=zAv 1 1 (evSs' GL2 D2 mb38)
def D3:Dm:=D2.add "own_shape" FM38
def FM40:MF:=zAv 2 2 (evSs' GL2 D3 mb40)
def D4:Dm:=D3.add "each_changed" FM40
def FM41:MF:=zAv 3 3 (evSs' GL2 D4 mb41)
def D5:Dm:=D4.add "covers" FM41
def FM42:MF:=lamM FM40 0 L0 [3] P42.length N42.length (zKW GL2 D5 mp0) (evM GL2 D5 me0)
def D6:Dm:=D5.add "thinned_covers" FM42
def FM43:MF:=zAv 1 4 (evSs' GL2 D6 mb43)
def D7:Dm:=D6.add "touched_cells" FM43
def zDP:MF:=zF7 "Fill" 3 (zDH.map λp=>(p.1,evM GL2 D7 p.2))
def D8:Dm:=D7.add "Fill()" zDP
def zDA:MF:=zF7 "Rub" 2 (zD4.map λp=>(p.1,evM GL2 D8 p.2))
def D9:Dm:=D8.add "Rub()" zDA
def zFX:MF:=lamM FM40 1 L1 [0] zCg.length zBN.length (zKW GL2 D9 mp1) (evM GL2 D9 me1)
def D10:Dm:=D9.add "Fill.films" zFX
def zBp:MF:=zF7 "Picture" 3 (zCJ.map λp=>(p.1,evM GL2 D10 p.2))
def D11:Dm:=D10.add "Picture()" zBp
def zAT:MF:=zAv 2 2 (evSs' GL2 D11 zAf)
def D12:Dm:=D11.add "Picture.check_lies" zAT
def zA8:MF:=zAv 2 3 (evSs' GL2 D12 zCZ)
def D13:Dm:=D12.add "Picture.mark" zA8
def zES:MF:=zAv 4 4 (evSs' GL2 D13 zEO)
def D14:Dm:=D13.add "Picture.lay" zES
def zBa:MF:=zAv 2 3 (evSs' GL2 D14 zEP)
def D15:Dm:=D14.add "Picture.add" zBa
def zBU:MF:=zAv 2 2 (evSs' GL2 D15 zBQ)
def D16:Dm:=D15.add "Picture.drop" zBU
def zBT:MF:=zAv 3 3 (evSs' GL2 D16 zAu)
def D17:Dm:=D16.add "Picture.lift" zBT
def zA2:MF:=zAv 1 1 (evSs' GL2 D17 zB4)
def D18:Dm:=D17.add "Picture.numbers" zA2
def zAr:MF:=zAv 3 5 (evSs' GL2 D18 zBg)
def D19:Dm:=D18.add "Picture.ground_at" zAr
def zAh:MF:=zAv 1 3 (zIl GL2 D19 1 me2 mr2)
def D20:Dm:=D19.add "Picture.renew" zAh
noncomputable def XE0:Xm:=[]
def zAY:MFX:=zBx 2 2 (evX GL2 D20 XE0 zAf)
def XE1:Xm:=XE0++[(("Picture.check_lies":Str),zAY)]
def zBz:MFX:=zBx 2 2 (evX GL2 D20 XE1 zBQ)
def XE2:Xm:=XE1++[(("Picture.drop":Str),zBz)]
def zBZ:MFX:=zBx 3 4 (evX GL2 D20 XE2 zCC)
def XE3:Xm:=XE2++[(("Picture.change":Str),zBZ)]
def zAn:MFX:=zBx 3 3 (evX GL2 D20 XE3 zAu)
def XE4:Xm:=XE3++[(("Picture.lift":Str),zAn)]
noncomputable def ty46:MT:=.cons (.ife (.cmp .Eq (.ix (.var 0) (.pur (.int 1))) (.pur (.str "drop"))) (.cons (.drop (.mth [("Picture",16)] "drop" (.ix (.var 0) (.pur (.int 0))) (.cons (.ix (.var 0) (.pur (.int 2))) .nil))) .nil) (.cons (.ife (.cmp .Eq (.ix (.var 0) (.pur (.int 1))) (.pur (.str "change"))) (.cons (.drop (.mth [] "change" (.ix (.var 0) (.pur (.int 0))) (.cons (.ix (.var 0) (.pur (.int 2))) (.cons (.ix (.var 0) (.pur (.int 3))) .nil)))) .nil) (.cons (.drop (.mth [("Picture",17)] "lift" (.ix (.var 0) (.pur (.int 0))) (.cons (.ix (.var 0) (.pur (.int 2))) (.cons (.ix (.var 0) (.pur (.int 3))) .nil)))) .nil)) .nil)) .nil
def FM46:MF:=zAv 1 3 (tryF GL2 D20 XE4 ty46 1 2 "CoverError" ["NoRatio","NoText","NoRow","NoName","NoCell"] "ValueError" "NoLayer" "NoPlace" "" "place" "layer")
def D21:Dm:=D20.add "_law_refusal" FM46
def FM48:MF:=zAv 5 9 (evSs' GL2 D21 mb48)
def D22:Dm:=D21.add "_law_tried" FM48
def FM49:MF:=zAv 1 12 (evSs' GL2 D22 mb49)
theorem len1 {O:Type}:∀ {us:List O},us.length=1->∃ a0,us=[a0]
 | [a0],_=>⟨a0,rfl⟩
theorem len2 {O:Type}:∀ {us:List O},us.length=2->∃ a0 a1,us=[a0,a1]
 | [a0,a1],_=>⟨a0,a1,rfl⟩
theorem len3 {O:Type}:∀ {us:List O},us.length=3->∃ a0 a1 a2,us=[a0,a1,a2]
 | [a0,a1,a2],_=>⟨a0,a1,a2,rfl⟩
theorem len4 {O:Type}:∀ {us:List O},us.length=4->∃ a0 a1 a2 a3,us=[a0,a1,a2,a3]
 | [a0,a1,a2,a3],_=>⟨a0,a1,a2,a3,rfl⟩
set_option maxHeartbeats 4000000 in
theorem all_mk {l:W.OpenLaw}(X:K.In h)(G:h.Ns mainGlobals mg)(hfa:mg "law"=some (.ref fa))
    
      
  
   (lt0:tabQ K "thinned_covers"=some (lc0,lp0))
   (lt1:tabQ K "Fill.films"=some (lc1,lp1))
   (lt2:tabQ K "Picture.renew"=some (lc2,lp2))
  
    
  
  (t0:FT K "_wall" (top 0) f0)
  (t1:FT K "common_measure" (top 14) f1)
  (t2:FT K "ratio" (top 15) f2)
  (t3:FT K "plus" (top 16) f3)
  (t4:FT K "minus" (top 17) f4)
  (t5:FT K "times" (top 18) f5)
  (t6:FT K "parted" (top 19) f6)
  (t7:FT K "neighbours_added" (top 20) f7)
  (t8:FT K "total" (top 21) f8)
  (t9:FT K "under" (top 22) f9)
  (t10:FT K "between" (top 23) f10)
  (t11:FT K "whole_part" (top 24) f11)
  (t12:FT K "cover" (top 26) f12)
  (t13:FT K "clear_film" (top 27) f13)
  (t14:FT K "clear_ground" (top 28) f14)
  (t15:FT K "rest_of" (top 29) f15)
  (t16:FT K "multiplied" (top 30) f16)
  (t17:FT K "seen" (top 31) f17)
  (t18:FT K "ink_film" (top 32) f18)
  (t19:FT K "rub_film" (top 33) f19)
  (t20:FT K "sides" (top 35) f20)
  (t21:FT K "numbers_between" (top 37) f21)
  (t22:FT K "rests_at" (top 38) f22)
  (t23:FT K "upright_crossings" (top 39) f23)
  (t24:FT K "level_crossings" (top 40) f24)
  (t25:FT K "comes_ahead" (top 41) f25)
  (t26:FT K "made_one" (top 42) f26)
  (t27:FT K "stops" (top 43) f27)
  (t28:FT K "middle" (top 44) f28)
  (t29:FT K "piece_between" (top 45) f29)
  (t30:FT K "counts_on" (top 46) f30)
  (t31:FT K "pieces" (top 47) f31)
  (t32:FT K "fall" (top 48) f32)
  (t33:FT K "right" (top 49) f33)
  (t34:FT K "empty_lists" (top 51) f34)
  (t35:FT K "all_pieces" (top 52) f35)
  (t36:FT K "row_of_shares" (top 53) f36)
  (t37:FT K "shares" (top 54) f37)
  (t38:FT K "own_shape" (top 56) f38)
  (t39:FT K "strength_or_one" (top 57) f39)
  (t40:FT K "each_changed" (top 58) f40)
  (t41:FT K "covers" (top 59) f41)
  (t42:FT K "thinned_covers" (top 60) f42)
  (t43:FT K "touched_cells" (top 62) f43)
  (t44:FT K "_law_cell" (top 69) f44)
  (t45:FT K "_law_spread" (top 71) f45)
  (t46:FT K "_law_refusal" (top 72) f46)
  (t47:FT K "_law_strange" (top 73) f47)
  (t48:FT K "_law_tried" (top 74) f48)
  (a49:W.nsIn K mainGlobals "law"=some (some (.ref f49))) (l49:K.lookup f49=some ⟨oc49,od49,.func (W.fnOf "law" "law" (zAg (top 75)) (zAF (top 75)) (zAA (top 75)) .none kV49 dc49 pm49 an49 cd49 ct49),sl49⟩) (c49:W.codeIn K cd49 "law"=true) (k49:W.keepIn K (.ref f49)=true)
  (z0:W.nsIn K mainGlobals "abs"=some none)
  (z1:W.nsIn K mainGlobals "len"=some none)
  (z2:W.nsIn K mainGlobals "range"=some none)
  (z3:W.nsIn K mainGlobals "list"=some none)
  (z4:W.nsIn K mainGlobals "tuple"=some none)
  (z5:W.nsIn K mainGlobals "zip"=some none)
  (z6:W.nsIn K mainGlobals "reversed"=some none)
  (z7:W.nsIn K mainGlobals "max"=some none)
  (z8:W.nsIn K mainGlobals "sorted"=some none)
  (z9:W.nsIn K mainGlobals "isinstance"=some none)
  (z10:W.nsIn K mainGlobals "int"=some none)
  (ca0:W.nsIn K mainGlobals "NOUGHT"=some (some (.ref g0))) (cl0:K.lookup g0=some ⟨.type "tuple",cod0,.seq cit0 cn0,csl0⟩) (cv0:cit0.toList.map absV=[some (.int 0),some (.int 1)])
  (ca1:W.nsIn K mainGlobals "HALF"=some (some (.ref g1))) (cl1:K.lookup g1=some ⟨.type "tuple",cod1,.seq cit1 cn1,csl1⟩) (cv1:cit1.toList.map absV=[some (.int 1),some (.int 2)])
  (ca2:W.nsIn K mainGlobals "ONE"=some (some (.ref g2))) (cl2:K.lookup g2=some ⟨.type "tuple",cod2,.seq cit2 cn2,csl2⟩) (cv2:cit2.toList.map absV=[some (.int 1),some (.int 1)])
  (xa0:W.nsIn K mainGlobals "NoLayer"=some (some (.ref x0)))
  (xa1:W.nsIn K mainGlobals "NoPlace"=some (some (.ref x1)))
  (xa2:W.nsIn K mainGlobals "CoverError"=some (some (.ref x2)))
  (xa3:W.nsIn K mainGlobals "NoRatio"=some (some (.ref x3)))
  (xa4:W.nsIn K mainGlobals "NoText"=some (some (.ref x4)))
  (xa5:W.nsIn K mainGlobals "NoRow"=some (some (.ref x5)))
  (xa6:W.nsIn K mainGlobals "NoName"=some (some (.ref x6)))
  (xa7:W.nsIn K mainGlobals "NoCell"=some (some (.ref x7)))
  (xv:W.nsIn K mainGlobals "ValueError"=some none)
  (xe0:W.excIn K x0 bmV "ValueError.__new__"=true)
  (xg0:W.findIn K (.ref x0) "__getattribute__"=some (some (.builtin "BaseException.__getattribute__")))
  (xt0:W.findIn K (.ref x0) "__getattr__"=some none)
  (xc0:W.findIn K (.ref x0) "__class__"=some (some (.builtin "object.__class__")))
  (xo0:W.mroIn K x0 (.type "object")=some true)
  (xb0:W.subIn K (.ref x0) (.type "BaseException")=some true)
  (xe1:W.excIn K x1 bmV "ValueError.__new__"=true)
  (xg1:W.findIn K (.ref x1) "__getattribute__"=some (some (.builtin "BaseException.__getattribute__")))
  (xt1:W.findIn K (.ref x1) "__getattr__"=some none)
  (xc1:W.findIn K (.ref x1) "__class__"=some (some (.builtin "object.__class__")))
  (xo1:W.mroIn K x1 (.type "object")=some true)
  (xb1:W.subIn K (.ref x1) (.type "BaseException")=some true)
  (xk0:W.kitOne K (.ref x0) (.ref x2)=some true)
  (xm0:W.exmOne K (.ref x0) (.ref x2)=some true)
  (xk1:W.kitOne K (.ref x1) (.ref x2)=some true)
  (xm1:W.exmOne K (.ref x1) (.ref x2)=some true)
  (xk2:W.kitOne K (.ref x0) (.ref x3)=some false)
  (xk3:W.kitOne K (.ref x1) (.ref x3)=some false)
  (xk4:W.kitOne K (.ref x0) (.ref x4)=some false)
  (xk5:W.kitOne K (.ref x1) (.ref x4)=some false)
  (xk6:W.kitOne K (.ref x0) (.ref x5)=some false)
  (xk7:W.kitOne K (.ref x1) (.ref x5)=some false)
  (xk8:W.kitOne K (.ref x0) (.ref x6)=some false)
  (xk9:W.kitOne K (.ref x1) (.ref x6)=some false)
  (xk10:W.kitOne K (.ref x0) (.ref x7)=some false)
  (xk11:W.kitOne K (.ref x1) (.ref x7)=some false)
  (xk12:W.kitOne K (.ref x0) (.type "ValueError")=some true)
  (xm12:W.exmOne K (.ref x0) (.type "ValueError")=some true)
  (xk13:W.kitOne K (.ref x1) (.type "ValueError")=some true)
  (xm13:W.exmOne K (.ref x1) (.type "ValueError")=some true)
  (xk14:W.kitOne K (.ref x0) (.ref x0)=some true)
  (xm14:W.exmOne K (.ref x0) (.ref x0)=some true)
  (xk15:W.kitOne K (.ref x1) (.ref x0)=some false)
  (xk16:W.kitOne K (.ref x0) (.ref x1)=some false)
  (xk17:W.kitOne K (.ref x1) (.ref x1)=some true)
  (xm17:W.exmOne K (.ref x1) (.ref x1)=some true)
  (u_u0:UC K "Fill" o_u0 ["shape","ink","strength"])
  (u_u1:UC K "Rub" o_u1 ["shape","strength"])
  (u_u2:UC K "Picture" o_u2 ["width","height","watcher","order","layers","laid","count","marks","grounds"])
  (m_q0:W.findIn K (.ref o_u0) "__init__"=some (some (.ref f_q0)))
  (i_q0:W.isFn K (.ref f_q0)=true)
  (l_q0:K.lookup f_q0=some ⟨oc_q0,od_q0,.func (W.fnOf "__init__" "Fill.__init__" (zAg (zAG (top 64) 0)) (zAF (zAG (top 64) 0)) (zAA (zAG (top 64) 0)) (.ref T_q0) kV_q0 dc_q0 pm_q0 an_q0 cd_q0 ct_q0),sl_q0⟩)
  (c_q0:W.codeIn K cd_q0 "Fill.__init__"=true)
  (k_q0:W.keepIn K (.ref f_q0)=true)
  (lT_q0:K.lookup T_q0=some ⟨ocT_q0,odT_q0,.seq #[.none] nT_q0,slT_q0⟩)
  (t_q1:FQ K o_u0 f_q1 "films" "Fill.films" (zAG (top 64) 1))
  (m_q2:W.findIn K (.ref o_u1) "__init__"=some (some (.ref f_q2)))
  (i_q2:W.isFn K (.ref f_q2)=true)
  (l_q2:K.lookup f_q2=some ⟨oc_q2,od_q2,.func (W.fnOf "__init__" "Rub.__init__" (zAg (zAG (top 65) 0)) (zAF (zAG (top 65) 0)) (zAA (zAG (top 65) 0)) (.ref T_q2) kV_q2 dc_q2 pm_q2 an_q2 cd_q2 ct_q2),sl_q2⟩)
  (c_q2:W.codeIn K cd_q2 "Rub.__init__"=true)
  (k_q2:W.keepIn K (.ref f_q2)=true)
  (lT_q2:K.lookup T_q2=some ⟨ocT_q2,odT_q2,.seq #[.none] nT_q2,slT_q2⟩)
  (m_q3:W.findIn K (.ref o_u2) "__init__"=some (some (.ref f_q3)))
  (i_q3:W.isFn K (.ref f_q3)=true)
  (l_q3:K.lookup f_q3=some ⟨oc_q3,od_q3,.func (W.fnOf "__init__" "Picture.__init__" (zAg (zAG (top 67) 0)) (zAF (zAG (top 67) 0)) (zAA (zAG (top 67) 0)) (.ref T_q3) kV_q3 dc_q3 pm_q3 an_q3 cd_q3 ct_q3),sl_q3⟩)
  (c_q3:W.codeIn K cd_q3 "Picture.__init__"=true)
  (k_q3:W.keepIn K (.ref f_q3)=true)
  (lT_q3:K.lookup T_q3=some ⟨ocT_q3,odT_q3,.seq #[.none] nT_q3,slT_q3⟩)
  (t_q4:FQ K o_u2 f_q4 "add" "Picture.add" (zAG (top 67) 1))
  (t_q5:FQ K o_u2 f_q5 "drop" "Picture.drop" (zAG (top 67) 2))
  (t_q6:FQ K o_u2 f_q6 "change" "Picture.change" (zAG (top 67) 3))
  (t_q7:FQ K o_u2 f_q7 "lift" "Picture.lift" (zAG (top 67) 4))
  (t_q8:FQ K o_u2 f_q8 "numbers" "Picture.numbers" (zAG (top 67) 5))
  (t_q9:FQ K o_u2 f_q9 "renew" "Picture.renew" (zAG (top 67) 7))
  (t_q10:FQ K o_u2 f_q10 "check_lies" "Picture.check_lies" (zAG (top 67) 9))
  (t_q11:FQ K o_u2 f_q11 "lay" "Picture.lay" (zAG (top 67) 10))
  (t_q12:FQ K o_u2 f_q12 "mark" "Picture.mark" (zAG (top 67) 11))
  (t_q13:FQ K o_u2 f_q13 "ground_at" "Picture.ground_at" (zAG (top 67) 12))
  : ∃ fd:FuncData,(∀ (s:Shared) (v:Value),BindsTo s fd ⟨[v],[]⟩ [("_law_script",v)])/\∀ base:Heap,K.In base->base.Ns mainGlobals mg->FnOk l.prog w K mg base CX0 75 fa fd ["_law_script"] (spM K FM49):=by
 have e:=hfa.symm.trans (W.mg_of X G a49);cases e;obtain⟨_,E21⟩:=t21.F;have B21:=E21.binds (ps:=P21) λ_ _ _ _ _ _ us hl=>by obtain⟨_,_,_,rfl⟩:=len3 hl;rfl
 obtain⟨_,E42⟩:=t42.F;have B42:=E42.binds (ps:=P42) λ_ _ _ _ _ _ us hl=>by obtain⟨_,_,_,_,rfl⟩:=len4 hl;rfl
 obtain⟨_,E46⟩:=t46.F;have B46:=E46.binds (ps:=P46) λ_ _ _ _ _ _ us hl=>by obtain⟨_,rfl⟩:=len1 hl;rfl
 have E49:=zKH (st:=top 75) l49 c49 k49;have B49:=E49.binds (ps:=P49) λ_ _ _ _ _ _ us hl=>by obtain⟨_,rfl⟩:=len1 hl;rfl
 refine⟨W.fnOf "law" "law" (zAg (top 75)) (zAF (top 75)) (zAA (top 75)) .none kV49 dc49 pm49 an49 cd49 ct49,λs v=>.of_eq rfl,λbase _ _=>?_⟩;have g0:GOk l.prog w K mg base 0 G0 bs:=⟨λx F h=>absurd h (by simp[G0]),λx d h=>?_,λx h=>?_,trivial,λp h=>?_,λc h=>?_,λj L F e=>absurd e (by simp[G0]),λp h=>?_⟩
 .have g21:GOk l.prog w K mg base 21 G21 bs:=(.aT 1 ["ring"] (.aT 1 ["s"] (.aT 2 ["s","ink"] (.aT 2 ["film","ground","through"] (.aT 2 ["parts","by"] (.aT 1 ["part"] (.aT 0 [] (.aT 0 [] (.aT 1 ["share"] (.aT 1 ["one"] (.aT 3 ["one","low","high"] (.aT 2 ["one","other"] (.aT 1 ["some","sums"] (.aT 1 ["some","added"] (.aT 2 ["one","other"] (.aT 2 ["one","other"] (.aT 2 ["one","other"] (.aT 2 ["one","other"] (.aT 2 ["top","bottom","measure"] (.aT 2 ["one","other","rest"] (.aT 1 ["k"] g0 X G t0) X G t1) X G t2) X G t3) X G t4) X G t5) X G t6) X G t7) X G t8) X G t9) X G t10) X G t11) X G t12) X G t13) X G t14) X G t15) X G t16) X G t17) X G t18) X G t19) X G t20);have g21_0:GOk l.prog w K mg base 21 zSR bs:=g21.addN E21 (W.mg_of X G t21.a) B21;have g21_1:GOk l.prog w K mg base 22 zSQ bs:=g21.addR g21_0 (by decide) E21 sc21 ck21 (W.mg_of X G t21.a) B21;have g22:GOk l.prog w K mg base 23 G22 bs:=g21.addR g21_1 (by decide) E21 sc21 ck21 (W.mg_of X G t21.a) B21;have g42:GOk l.prog w K mg base 39 G42 bs:=(.aU ["width","height","shape"] (.aU ["rows","change"] (.aT 1 ["strength"] (.aU ["shape"] (.aU ["width","height","shape"] (.aT 2 ["falls","rights","told","fallen","column"] (.aT 3 ["width","height","shape","found","ring","side"] (.aT 1 ["count"] (.aT 1 ["piece","column"] (.aT 1 ["piece"] (.aT 3 ["width","height","side","points","parts"] (.aT 3 ["width","height","piece"] (.aT 2 ["start","end","column","row"] (.aT 2 ["one","other"] (.aT 3 ["width","height","side","start","end","crossed"] (.aT 3 ["some","others","to_the_right","points","k","point"] (.aT 3 ["one","other","to_the_right"] (.aT 2 ["side","height","start","end","numbers","widths"] (.aT 2 ["side","width","start","end","numbers","heights"] (.aT 5 ["numbers","start","end","rest","rest_end","slope"] g22 X G t22) X G t23) X G t24) X G t25) X G t26) X G t27) X G t28) X G t29) X G t30) X G t31) X G t32) X G t33) X G t34) X G t35) X G t36) X G t37) X G t38) X G t39) X G t40) X G t41);have g43:GOk l.prog w K mg base 39 G43 bs:=g42.addN E42 (W.mg_of X G t42.a) B42;have g46:GOk l.prog w K mg base 41 G46 bs:=(.aT 2 ["_law_cell_here","_law_k"] (.aT 2 ["_law_script","_law_k","_law_seed","_law_some"] (.aU ["rows"] g43 X G t43) X G t44) X G t45);have g47:GOk l.prog w K mg base 41 G47 bs:=g46.addN E46 (W.mg_of X G t46.a) B46;have g49:GOk l.prog w K mg base 42 G49 bs:=(.aU ["_law_picture","_law_cell_here","_law_due","_law_given","_law_layer"] (.aT 3 ["_law_cell_here","_law_due","_law_given","_law_gone","_law_some"] g47 X G t47) X G t48);have bk_q0:=λ(s:Shared) (args:Args) (bi:List (Str×Value)) kk (hK:K.In s.heap) h1 h2=>zEE (s:=s) (args:=args) (binds:=bi) (kk:=kk) (fd:=W.fnOf "__init__" "Fill.__init__" (zAg (zAG (top 64) 0)) (zAF (zAG (top 64) 0)) (zAA (zAG (top 64) 0)) (.ref T_q0) kV_q0 dc_q0 pm_q0 an_q0 cd_q0 ct_q0) rfl lT_q0 hK h1 h2
  obtain⟨_,E_q1⟩:=t_q1.F;have B_q1:=E_q1.binds (ps:=zCg) (bz3 rfl rfl);have bk_q2:=λ(s:Shared) (args:Args) (bi:List (Str×Value)) kk (hK:K.In s.heap) h1 h2=>zEE (s:=s) (args:=args) (binds:=bi) (kk:=kk) (fd:=W.fnOf "__init__" "Rub.__init__" (zAg (zAG (top 65) 0)) (zAF (zAG (top 65) 0)) (zAA (zAG (top 65) 0)) (.ref T_q2) kV_q2 dc_q2 pm_q2 an_q2 cd_q2 ct_q2) rfl lT_q2 hK h1 h2
  have bk_q3:=λ(s:Shared) (args:Args) (bi:List (Str×Value)) kk (hK:K.In s.heap) h1 h2=>zEE (s:=s) (args:=args) (binds:=bi) (kk:=kk) (fd:=W.fnOf "__init__" "Picture.__init__" (zAg (zAG (top 67) 0)) (zAF (zAG (top 67) 0)) (zAA (zAG (top 67) 0)) (.ref T_q3) kV_q3 dc_q3 pm_q3 an_q3 cd_q3 ct_q3) rfl lT_q3 hK h1 h2
  obtain⟨_,E_q9⟩:=t_q9.F;have B_q9:=E_q9.binds (ps:=zCe) (bz1 rfl rfl);have gl0:GOk l.prog w K mg base 43 GL0 bs:=g49.addL lsc0.1 lsc0.2 lck0;have fq0:zER K "thinned_covers"=some f42:=by
   unfold zER;rw[show zLl.lookup ("thinned_covers":Str)=none from by decide +kernel];simp only[t42.a]
  have ld0:zEm K "thinned_covers" (top 60) f42 N42 (zAF (top 60)).dropLast (zHT (top 60)) "each_changed" L0 [3]:=by
   have cp:=zNi (sc:=zAA (top 60)) (ps:=N42) (ys:=["strength"]) (ix:=[3]) (by decide +kernel);rw[<- lsc0.2] at cp;exact⟨⟨_,_,_,_,rfl⟩,rfl,rfl,by decide,fq0,⟨_,_,lt0⟩,by decide +kernel,by decide,λ_=>rfl,by rw[lsc0.2];decide,cp.1,cp.2,zFN _⟩
  have gl1:GOk l.prog w K mg base 44 GL1 bs:=gl0.addL lsc1.1 lsc1.2 lck1;have fq1:zER K "Fill.films"=some f_q1:=by
   unfold zER;rw[show zLl.lookup ("Fill.films":Str)=some (("Fill":Str),("films":Str)) from by decide +kernel];simp only[show W.nsIn K mainGlobals _=_ from u_u0.a,t_q1.M.1]
  have ld1:zEm K "Fill.films" (zAG (top 64) 1) f_q1 zBN (zAF (zAG (top 64) 1)).dropLast (zHT (zAG (top 64) 1)) "each_changed" L1 [0]:=by
   have cp:=zNi (sc:=zAA (zAG (top 64) 1)) (ps:=zBN) (ys:=["self"]) (ix:=[0]) (by decide +kernel);rw[<- lsc1.2] at cp;exact⟨⟨_,_,_,_,rfl⟩,rfl,rfl,by decide,fq1,⟨_,_,lt1⟩,by decide +kernel,by decide,λ_=>rfl,by rw[lsc1.2];decide,cp.1,cp.2,zFN _⟩
  have gl2:GOk l.prog w K mg base 45 GL2 bs:=gl1.addL lsc2.1 lsc2.2 lck2;have fq2:zER K "Picture.renew"=some f_q9:=by
   unfold zER;rw[show zLl.lookup ("Picture.renew":Str)=some (("Picture":Str),("renew":Str)) from by decide +kernel];simp only[show W.nsIn K mainGlobals _=_ from u_u2.a,t_q9.M.1]
  have ld2:zG6 K "Picture.renew" (zAG (top 67) 7) f_q9 "touched" (zIm (zAG (top 67) 7)) (zAF (zAG (top 67) 7)).tail L2:=⟨⟨_,_,_,_,_,_,rfl⟩,rfl,rfl,by decide,fq2,⟨_,_,lt2⟩,λ_=>rfl,lsc2.2⟩;have c0:DmOk l.prog w K mg base 45 []:=λx F h=>absurd h (by simp)
  have c1_:=c0.lift1 gl2 (mem_of_getElem? (i:=17) (show GL2.fns[17]?=some (("seen":Str),F17) from rfl));have d0:DmOk l.prog w K mg base 45 D0:=c1_;have d5:DmOk l.prog w K mg base 50 D5:=(.aT 3 ["width","height","shape"] (.aT 2 ["rows","change"] (.aT 1 ["shape"] (.aT 3 ["width","height","shape","falls","rights","piece","place"] (.aT 1 ["count"] d0 gl2 X G t34) gl2 X G t37) gl2 X G t38) gl2 X G t40) gl2 X G t41);have d6:DmOk l.prog w K mg base 51 D6:=d5.addF (gl2.mono (by decide)) E42 sc42 ld0 pck0 eck0 (W.mg_of X G t42.a) B42 (mem_of_getElem? (i:=4) (show D5[4]?=some (("each_changed":Str),FM40) from rfl));have d7:DmOk l.prog w K mg base 52 D7:=(.aT 1 ["rows","touched","row","column"] d6 gl2 X G t43);have fi_q0:=zGq (J:=GL2) (c := "Fill") (C:=o_u0) (y := "self") (ys:=zCf.tail) (L:=zDH) l_q0 c_q0 zHz (by decide +kernel) (by decide) zGr (gl2.mono (by decide)) d7 u_u0.a u_u0.c u_u0.n (by decide +kernel) (by decide +kernel) (by decide +kernel) (by decide);have d8:DmOk l.prog w K mg base 54 D8:=(d7.mono (by decide)).addC (kw := "strength") (j:=53) (by decide) (by decide +kernel) (W.mg_of X G u_u0.a) ⟨u_u0.k,m_q0,i_q0,u_u0.kc⟩ fi_q0 (λs us hK hl=>by obtain⟨_,_,_,_,rfl⟩:=len4 (us:=us) (by simpa [zCf] using hl);exact bk_q0 s _ _ _ hK rfl rfl) (λ_=>⟨(λs us hK hl=>by obtain⟨_,_,_,rfl⟩:=len3 (us:=us) (by simpa [zCf] using hl);exact bk_q0 s _ _ _ hK rfl rfl),(λs us u hK hl=>by obtain⟨_,_,_,rfl⟩:=len3 (us:=us) (by simpa [zCf] using hl);exact bk_q0 s _ _ _ hK rfl rfl)⟩);have fi_q2:=zGq (J:=GL2) (c := "Rub") (C:=o_u1) (y := "self") (ys:=zC8.tail) (L:=zD4) l_q2 c_q2 zIr (by decide +kernel) (by decide) zIJ (gl2.mono (by decide)) d8 u_u1.a u_u1.c u_u1.n (by decide +kernel) (by decide +kernel) (by decide +kernel) (by decide);have d9:DmOk l.prog w K mg base 56 D9:=(d8.mono (by decide)).addC (kw := "strength") (j:=55) (by decide) (by decide +kernel) (W.mg_of X G u_u1.a) ⟨u_u1.k,m_q2,i_q2,u_u1.kc⟩ fi_q2 (λs us hK hl=>by obtain⟨_,_,_,rfl⟩:=len3 (us:=us) (by simpa [zC8] using hl);exact bk_q2 s _ _ _ hK rfl rfl) (λ_=>⟨(λs us hK hl=>by obtain⟨_,_,rfl⟩:=len2 (us:=us) (by simpa [zC8] using hl);exact bk_q2 s _ _ _ hK rfl rfl),(λs us u hK hl=>by obtain⟨_,_,rfl⟩:=len2 (us:=us) (by simpa [zC8] using hl);exact bk_q2 s _ _ _ hK rfl rfl)⟩);have d10:DmOk l.prog w K mg base 57 D10:=d9.addFM (gl2.mono (by decide)) E_q1 zEx ld1 pck1 eck1 B_q1 (mem_of_getElem? (i:=4) (show D9[4]?=some (("each_changed":Str),FM40) from rfl)) u_u0.a u_u0.c t_q1.M (by decide +kernel);have fi_q3:=zGq (J:=GL2) (c := "Picture") (C:=o_u2) (y := "self") (ys:=zBd.tail) (L:=zCJ) l_q3 c_q3 zEw (by decide +kernel) (by decide) zEQ (gl2.mono (by decide)) d10 u_u2.a u_u2.c u_u2.n (by decide +kernel) (by decide +kernel) (by decide +kernel) (by decide);have d11:DmOk l.prog w K mg base 59 D11:=(d10.mono (by decide)).addC (kw := "watcher") (j:=58) (by decide) (by decide +kernel) (W.mg_of X G u_u2.a) ⟨u_u2.k,m_q3,i_q3,u_u2.kc⟩ fi_q3 (λs us hK hl=>by obtain⟨_,_,_,_,rfl⟩:=len4 (us:=us) (by simpa [zBd] using hl);exact bk_q3 s _ _ _ hK rfl rfl) (λ_=>⟨(λs us hK hl=>by obtain⟨_,_,_,rfl⟩:=len3 (us:=us) (by simpa [zBd] using hl);exact bk_q3 s _ _ _ hK rfl rfl),(λs us u hK hl=>by obtain⟨_,_,_,rfl⟩:=len3 (us:=us) (by simpa [zBd] using hl);exact bk_q3 s _ _ _ hK rfl rfl)⟩)
  have d19:DmOk l.prog w K mg base 67 D19:=(.aQ 3 ["self","column","row","ground","number"] (.aQ 1 ["self"] (.aQ 3 ["self","number","place"] (.aQ 2 ["self","number"] (.aQ 2 ["self","layer","number"] (.aQ 4 ["self","number","layer","films"] (.aQ 2 ["self","number","cell"] (.aQ 2 ["self","number"] d11 gl2 t_q10 u_u2.a u_u2.c) gl2 t_q12 u_u2.a u_u2.c) gl2 t_q11 u_u2.a u_u2.c) gl2 t_q4 u_u2.a u_u2.c) gl2 t_q5 u_u2.a u_u2.c) gl2 t_q7 u_u2.a u_u2.c) gl2 t_q8 u_u2.a u_u2.c) gl2 t_q13 u_u2.a u_u2.c);have d20:DmOk l.prog w K mg base 68 D20:=d19.addSM (gl2.mono (by decide)) E_q9 zDY ld2 (i:=1) (by decide +kernel) (by decide +kernel) eck2 rck2 (gl2.lm 2 L2 FL2 rfl) (by decide) (λ_ _=>rfl) B_q9 u_u2.a u_u2.c t_q9.M (by decide +kernel);have xm0:XmOk l.prog w K mg base 68 XE0:=.nil;have xm1:XmOk l.prog w K mg base 69 XE1:=xm0.aQ 2 ["self","number"] (d20.mono (by decide)) (gl2.mono (by decide)) t_q10 u_u2.a u_u2.c;have xm2:XmOk l.prog w K mg base 70 XE2:=xm1.aQ 2 ["self","number"] (d20.mono (by decide)) (gl2.mono (by decide)) t_q5 u_u2.a u_u2.c;have xm3:XmOk l.prog w K mg base 71 XE3:=xm2.aQ 3 ["self","number","layer","films"] (d20.mono (by decide)) (gl2.mono (by decide)) t_q6 u_u2.a u_u2.c;have xm4:XmOk l.prog w K mg base 72 XE4:=xm3.aQ 3 ["self","number","place"] (d20.mono (by decide)) (gl2.mono (by decide)) t_q7 u_u2.a u_u2.c;have d21:DmOk l.prog w K mg base 73 D21:=DmOk.aY (n0:=1) (N:=N46) (body:=zNs (top 72)) (n := "e") (m := "_law_kinds") (i:=1) (j:=2) (b:=ty46) (d20.mono (by decide)) (gl2.mono (by decide)) xm4 X G t46.F t46.a sc46 ⟨⟨_,_,_,_,_,_,_,_,_,_,_,_,_,_,_,_,_,_,_,_,_,_,_,_,_,_,_,_,_,_,_,_,_,_,_,_,_,_,_,_,_,_,_,_,_,_,_,_,_,_,_,_,_,_,_,_,_,_,_,_,rfl,by decide +kernel⟩⟩ (by decide +kernel) (by decide +kernel) (λ_ E=>E.binds (bz1 rfl rfl)) (by decide +kernel);have d22:DmOk l.prog w K mg base 74 D22:=(.aT 5 ["_law_picture","_law_cell_here","_law_due","_law_given","_law_layer","_law_number","_law_places","_law_place","_law_deeds"] d21 gl2 X G t48);exact zGz E49 sc49 zSt (gl2.mono (by decide)) d22
 .simp only [G0,mem_cons,Prod.mk.injEq,mem_nil_iff,or_false,not_mem_nil] at h;rcases h with ⟨rfl,rfl⟩ | ⟨rfl,rfl⟩ | ⟨rfl,rfl⟩ | ⟨rfl,rfl⟩ | ⟨rfl,rfl⟩
  .exact zFL (ns:=[0,1]) (W.mg_of X G ca0) cl0 cv0
  .exact zFL (ns:=[1,2]) (W.mg_of X G ca1) cl1 cv1
  .exact zFL (ns:=[1,1]) (W.mg_of X G ca2) cl2 cv2
  .exact ⟨_,.ref f12,W.mg_of X G t12.a,rfl,by rw[Den];exact⟨_,rfl,t12.a⟩⟩
  .exact ⟨_,.ref f19,W.mg_of X G t19.a,rfl,by rw[Den];exact⟨_,rfl,t19.a⟩⟩
 .simp only [bs,mem_cons,mem_nil_iff,or_false,not_mem_nil] at h;rcases h with rfl | rfl | rfl | rfl | rfl | rfl | rfl | rfl | rfl | rfl | rfl
  .exact W.mg_none_of X G z0
  .exact W.mg_none_of X G z1
  .exact W.mg_none_of X G z2
  .exact W.mg_none_of X G z3
  .exact W.mg_none_of X G z4
  .exact W.mg_none_of X G z5
  .exact W.mg_none_of X G z6
  .exact W.mg_none_of X G z7
  .exact W.mg_none_of X G z8
  .exact W.mg_none_of X G z9
  .exact W.mg_none_of X G z10
 .have cl:∀ {c:Str} {A B:Addr},zAp K c A->zAp K c B->A=B:=λh1 h2=>by rw[zAp] at h1 h2;rw[h1] at h2;cases h2;rfl
  simp only[G0,mem_cons,mem_nil_iff,or_false,not_mem_nil] at h;have s_CoverError:zEL K mg G0.sub "CoverError":=zBi (.ref x2) (.inl ⟨x2,rfl,W.mg_of X G xa2⟩) λc b h C q=>by
   have h2:(c = "NoLayer"/\b=true)\/(c = "NoPlace"/\b=true):=by
    have h3:=zCx h;rw[show (G0.sub.filter λp=>decide (p.2.1=("CoverError":Str))).map (λp=>(p.1,p.2.2))=([("NoLayer",true),("NoPlace",true)]:List (Str×Bool)) from by decide +kernel] at h3;simpa using h3
   rcases h2 with ⟨rfl,rfl⟩ | ⟨rfl,rfl⟩
   .obtain rfl:=cl xa0 q;exact⟨⟨xg0,xt0,xc0,xo0,xb0,zBX xe0⟩,xk0,λz=>xm0⟩
   .obtain rfl:=cl xa1 q;exact⟨⟨xg1,xt1,xc1,xo1,xb1,zBX xe1⟩,xk1,λz=>xm1⟩
  have s_NoRatio:zEL K mg G0.sub "NoRatio":=zBi (.ref x3) (.inl ⟨x3,rfl,W.mg_of X G xa3⟩) λc b h C q=>by
   have h2:(c = "NoLayer"/\b=false)\/(c = "NoPlace"/\b=false):=by
    have h3:=zCx h;rw[show (G0.sub.filter λp=>decide (p.2.1=("NoRatio":Str))).map (λp=>(p.1,p.2.2))=([("NoLayer",false),("NoPlace",false)]:List (Str×Bool)) from by decide +kernel] at h3;simpa using h3
   rcases h2 with ⟨rfl,rfl⟩ | ⟨rfl,rfl⟩
   .obtain rfl:=cl xa0 q;exact⟨⟨xg0,xt0,xc0,xo0,xb0,zBX xe0⟩,xk2,λz=>nomatch z⟩
   .obtain rfl:=cl xa1 q;exact⟨⟨xg1,xt1,xc1,xo1,xb1,zBX xe1⟩,xk3,λz=>nomatch z⟩
  have s_NoText:zEL K mg G0.sub "NoText":=zBi (.ref x4) (.inl ⟨x4,rfl,W.mg_of X G xa4⟩) λc b h C q=>by
   have h2:(c = "NoLayer"/\b=false)\/(c = "NoPlace"/\b=false):=by
    have h3:=zCx h;rw[show (G0.sub.filter λp=>decide (p.2.1=("NoText":Str))).map (λp=>(p.1,p.2.2))=([("NoLayer",false),("NoPlace",false)]:List (Str×Bool)) from by decide +kernel] at h3;simpa using h3
   rcases h2 with ⟨rfl,rfl⟩ | ⟨rfl,rfl⟩
   .obtain rfl:=cl xa0 q;exact⟨⟨xg0,xt0,xc0,xo0,xb0,zBX xe0⟩,xk4,λz=>nomatch z⟩
   .obtain rfl:=cl xa1 q;exact⟨⟨xg1,xt1,xc1,xo1,xb1,zBX xe1⟩,xk5,λz=>nomatch z⟩
  have s_NoRow:zEL K mg G0.sub "NoRow":=zBi (.ref x5) (.inl ⟨x5,rfl,W.mg_of X G xa5⟩) λc b h C q=>by
   have h2:(c = "NoLayer"/\b=false)\/(c = "NoPlace"/\b=false):=by
    have h3:=zCx h;rw[show (G0.sub.filter λp=>decide (p.2.1=("NoRow":Str))).map (λp=>(p.1,p.2.2))=([("NoLayer",false),("NoPlace",false)]:List (Str×Bool)) from by decide +kernel] at h3;simpa using h3
   rcases h2 with ⟨rfl,rfl⟩ | ⟨rfl,rfl⟩
   .obtain rfl:=cl xa0 q;exact⟨⟨xg0,xt0,xc0,xo0,xb0,zBX xe0⟩,xk6,λz=>nomatch z⟩
   .obtain rfl:=cl xa1 q;exact⟨⟨xg1,xt1,xc1,xo1,xb1,zBX xe1⟩,xk7,λz=>nomatch z⟩
  have s_NoName:zEL K mg G0.sub "NoName":=zBi (.ref x6) (.inl ⟨x6,rfl,W.mg_of X G xa6⟩) λc b h C q=>by
   have h2:(c = "NoLayer"/\b=false)\/(c = "NoPlace"/\b=false):=by
    have h3:=zCx h;rw[show (G0.sub.filter λp=>decide (p.2.1=("NoName":Str))).map (λp=>(p.1,p.2.2))=([("NoLayer",false),("NoPlace",false)]:List (Str×Bool)) from by decide +kernel] at h3;simpa using h3
   rcases h2 with ⟨rfl,rfl⟩ | ⟨rfl,rfl⟩
   .obtain rfl:=cl xa0 q;exact⟨⟨xg0,xt0,xc0,xo0,xb0,zBX xe0⟩,xk8,λz=>nomatch z⟩
   .obtain rfl:=cl xa1 q;exact⟨⟨xg1,xt1,xc1,xo1,xb1,zBX xe1⟩,xk9,λz=>nomatch z⟩
  have s_NoCell:zEL K mg G0.sub "NoCell":=zBi (.ref x7) (.inl ⟨x7,rfl,W.mg_of X G xa7⟩) λc b h C q=>by
   have h2:(c = "NoLayer"/\b=false)\/(c = "NoPlace"/\b=false):=by
    have h3:=zCx h;rw[show (G0.sub.filter λp=>decide (p.2.1=("NoCell":Str))).map (λp=>(p.1,p.2.2))=([("NoLayer",false),("NoPlace",false)]:List (Str×Bool)) from by decide +kernel] at h3;simpa using h3
   rcases h2 with ⟨rfl,rfl⟩ | ⟨rfl,rfl⟩
   .obtain rfl:=cl xa0 q;exact⟨⟨xg0,xt0,xc0,xo0,xb0,zBX xe0⟩,xk10,λz=>nomatch z⟩
   .obtain rfl:=cl xa1 q;exact⟨⟨xg1,xt1,xc1,xo1,xb1,zBX xe1⟩,xk11,λz=>nomatch z⟩
  have s_ValueError:zEL K mg G0.sub "ValueError":=zBi (.type "ValueError") (.inr ⟨W.mg_none_of X G xv,rfl,rfl⟩) λc b h C q=>by
   have h2:(c = "NoLayer"/\b=true)\/(c = "NoPlace"/\b=true):=by
    have h3:=zCx h;rw[show (G0.sub.filter λp=>decide (p.2.1=("ValueError":Str))).map (λp=>(p.1,p.2.2))=([("NoLayer",true),("NoPlace",true)]:List (Str×Bool)) from by decide +kernel] at h3;simpa using h3
   rcases h2 with ⟨rfl,rfl⟩ | ⟨rfl,rfl⟩
   .obtain rfl:=cl xa0 q;exact⟨⟨xg0,xt0,xc0,xo0,xb0,zBX xe0⟩,xk12,λz=>xm12⟩
   .obtain rfl:=cl xa1 q;exact⟨⟨xg1,xt1,xc1,xo1,xb1,zBX xe1⟩,xk13,λz=>xm13⟩
  have s_NoLayer:zEL K mg G0.sub "NoLayer":=zBi (.ref x0) (.inl ⟨x0,rfl,W.mg_of X G xa0⟩) λc b h C q=>by
   have h2:(c = "NoLayer"/\b=true)\/(c = "NoPlace"/\b=false):=by
    have h3:=zCx h;rw[show (G0.sub.filter λp=>decide (p.2.1=("NoLayer":Str))).map (λp=>(p.1,p.2.2))=([("NoLayer",true),("NoPlace",false)]:List (Str×Bool)) from by decide +kernel] at h3;simpa using h3
   rcases h2 with ⟨rfl,rfl⟩ | ⟨rfl,rfl⟩
   .obtain rfl:=cl xa0 q;exact⟨⟨xg0,xt0,xc0,xo0,xb0,zBX xe0⟩,xk14,λz=>xm14⟩
   .obtain rfl:=cl xa1 q;exact⟨⟨xg1,xt1,xc1,xo1,xb1,zBX xe1⟩,xk15,λz=>nomatch z⟩
  have s_NoPlace:zEL K mg G0.sub "NoPlace":=zBi (.ref x1) (.inl ⟨x1,rfl,W.mg_of X G xa1⟩) λc b h C q=>by
   have h2:(c = "NoLayer"/\b=false)\/(c = "NoPlace"/\b=true):=by
    have h3:=zCx h;rw[show (G0.sub.filter λp=>decide (p.2.1=("NoPlace":Str))).map (λp=>(p.1,p.2.2))=([("NoLayer",false),("NoPlace",true)]:List (Str×Bool)) from by decide +kernel] at h3;simpa using h3
   rcases h2 with ⟨rfl,rfl⟩ | ⟨rfl,rfl⟩
   .obtain rfl:=cl xa0 q;exact⟨⟨xg0,xt0,xc0,xo0,xb0,zBX xe0⟩,xk16,λz=>nomatch z⟩
   .obtain rfl:=cl xa1 q;exact⟨⟨xg1,xt1,xc1,xo1,xb1,zBX xe1⟩,xk17,λz=>xm17⟩
  rcases h with rfl | rfl | rfl | rfl | rfl | rfl | rfl | rfl | rfl | rfl | rfl | rfl | rfl | rfl | rfl | rfl | rfl | rfl
  .exact s_CoverError
  .exact s_CoverError
  .exact s_NoRatio
  .exact s_NoRatio
  .exact s_NoText
  .exact s_NoText
  .exact s_NoRow
  .exact s_NoRow
  .exact s_NoName
  .exact s_NoName
  .exact s_NoCell
  .exact s_NoCell
  .exact s_ValueError
  .exact s_ValueError
  .exact s_NoLayer
  .exact s_NoLayer
  .exact s_NoPlace
  .exact s_NoPlace
 .simp only [G0,mem_cons,mem_nil_iff,or_false,not_mem_nil] at h;rcases h with rfl | rfl
  .exact ⟨x0,xa0,W.mg_of X G xa0,xe0⟩
  .exact ⟨x1,xa1,W.mg_of X G xa1,xe1⟩
 .simp only [G0,mem_cons,mem_nil_iff,or_false,not_mem_nil] at h;rcases h with rfl | rfl | rfl | rfl | rfl | rfl | rfl | rfl | rfl | rfl | rfl | rfl | rfl | rfl
  .exact u_u0.o (by decide)
  .exact u_u0.o (by decide)
  .exact u_u0.o (by decide)
  .exact u_u1.o (by decide)
  .exact u_u1.o (by decide)
  .exact u_u2.o (by decide)
  .exact u_u2.o (by decide)
  .exact u_u2.o (by decide)
  .exact u_u2.o (by decide)
  .exact u_u2.o (by decide)
  .exact u_u2.o (by decide)
  .exact u_u2.o (by decide)
  .exact u_u2.o (by decide)
  .exact u_u2.o (by decide)
end Q
end
section
noncomputable section
namespace Q
open PySem DL
open L2
structure Fl (w h:Nat):Prop where
 w1:1<=w
 w2:w<=3
 h1:1<=h
 h2:h<=2
theorem Fl.ind {P:Nat->Nat->Prop}(k:P 1 1)(g:P 1 2)(e:P 2 1)(j:P 2 2)(i:P 3 1)(l:P 3 2):∀ {w h:Nat},Fl w h->P w h:=λ{w h} f=>by
 obtain⟨a,b,c,d⟩:=f;grind
abbrev oz (b:Bool):D:=.tup [.int (cond b 1 0),.int 1]
abbrev tz (b:Bool):D:=.tup [.int (cond b 2 0),.int 1]
abbrev pz (a b:Bool):D:=.tup [tz a,tz b]
abbrev boxP:List D:=[pz false false,pz true false,pz true true,pz false true]
abbrev inkD:D:=.tup [.int 255,.int 0,.int 7]
abbrev rsD (l:List Int):D:=.tup (l.map λi=>.tup [.int i,.int 1])
abbrev fmD (b:Bool):D:=rsD (cond b [0,1,255,0,7] [1,0,0,0,0])
noncomputable def rowB (w:Nat):List Bool:=(List.range w).map λc=>decide (c < 2)
noncomputable def tabB (w h:Nat):List (List Bool):=(List.range h).map λ_=>rowB w
theorem zG9 (w h:Nat):(tabB w h).length=h:=by unfold tabB;rw[List.length_map,length_range]
abbrev zKL (a:Nat):W:=.obj "Fill" ["shape","ink","strength"] [.loc a,.dat inkD,.dat (oz true)]
structure Kq (M M2:Mem):Prop where
 le:M.length<=M2.length
 kp:∀ x,x < M.length->M2[x]?=M[x]?
theorem zF4 :Kq M (M++U):=⟨by rw[qj];omega,λx a=>getElem?_append_left a⟩
theorem zF3 :Kq M M:=⟨le_refl _,λ_ _=>rfl⟩
theorem Kq.trans (a:Kq M M2)(b:Kq M2 M3):Kq M M3:=⟨le_trans a.le b.le,λx hx=>(b.kp x (xJ hx a.le)).trans (a.kp x hx)⟩
theorem Kq.ll (k:Kq M M2)(e:Ll M n l):Ll M2 n l:=e.keep (k.kp n e.lt.1) λp a=>k.kp p.1 (e.lt.2 p a)
structure Rw (M:Mem)(n b:Nat)(l:Lp)(rows:List (List D)):Prop where
 ll:Ll M n l
 lo:∀ p∈l,b<=p.1
 top:b<=n
 snd:l.map (λp=>p.2)=rows
theorem Rw.len (e:Rw M n b l rows):l.length=rows.length:=by rw[<- e.snd,List.length_map]
theorem Rw.dr (e:Rw M n b l rows):drW M (.loc n)=some (.lst (rows.map .lst)):=by
 rw[e.ll.dr,<- e.snd,map_map]
 rfl
theorem Rw.keep (e:Rw M n b l rows)(k:Kq M M2):Rw M2 n b l rows:=⟨k.ll e.ll,e.lo,e.top,e.snd⟩
theorem Rw.lt (e:Rw M n b l rows):n < M.length:=e.ll.lt.1
theorem zFj :(rngL 0 n).length=n:=by unfold rngL;rw[List.length_map,length_range]
theorem idx (e:((rngL 0 n).map W.dat)[j]?=some y):y=.dat (.int (j:Int))/\j < n:=by
 have a:j < n:=by
  have:=(zzg e).1;rw[List.length_map,zFj] at this;omega
 unfold rngL at e
 simp_all
theorem nrng :((rngL 0 n).map W.dat).length=n:=by rw[List.length_map,zFj]
theorem zBR {M:Mem}{ws:List W}:(M++[ws])[M.length]?=some ws:=by simp
theorem zLq {M:Mem}{ws vs:List W}:(M++[ws]).set M.length vs=M++[vs]:=by simp
theorem h44:zST F44:=zPp
theorem h39:F39 [.non]=some (oz true,.cl):=by kernel_rfl
theorem zQN (b:M[a]?=some [])(c:∀ (L:W) (U:Mem),Q (L,M++U)):EvP (zDA [.loc a,.dat .non] M) Q:=by
 refine zOs rfl (by decide +kernel) ?_;show EvP (zFF [("shape",evM GL2 D8 (.call 3 "own_shape" (.cons (.var 1) .nil))),("strength",evM GL2 D8 (.pur (.call 39 "strength_or_one" (.cons (.var 2) .nil))))] ⟨[none,some (.loc a),some (.dat .non)],M⟩) _;refine zJs (zFx (F:=FM38) rfl (zAE (zAH rfl (zAW ?_))));refine zDL rfl (by decide) ?_;unfold mb38;refine zAC (zCp (zQ4 (zEu (zAH rfl ⟨a,rfl,([],M),?_,zero_le _,zDb ?_⟩))))
 .show zDc _ _ (.live a) (999+1) 0 _ []=_;rw[zDc];show ((M[a]?).bind _)=_;rw[b]
  rfl
 refine zJs (zAy rfl (zBv rfl (zAx (zAm (zAL rfl zAN) (n_cl (zCV ?_))))));exact⟨_,h39,n_cl (zAo rfl (⟨_,rfl,(c _ [[]])⟩))⟩
theorem h13 (Q:R->Prop)(h:Q (rsD [1,0,0,0,0],.cl)):EvP (F13 []) Q:=by
 refine zPU rfl (by simp) ?_;unfold b13;(walk_at "w");exact h
theorem h14 (Q:R->Prop)(h:Q (rsD [0,0,0,0],.cl)):EvP (F14 []) Q:=by
 refine zPU rfl (by simp) ?_;unfold b14;(walk_at "w");exact h
structure Kx (S:List Nat)(M M2:Mem):Prop where
 le:M.length<=M2.length
 kp:∀ y,y < M.length->y∉S->M2[y]?=M[y]?
theorem Kq.kx {S:List Nat}(k:Kq M M2):Kx S M M2:=⟨k.le,λy h _=>k.kp y h⟩
theorem Kx.trans {S:List Nat}(a:Kx S M M2)(b:Kx S M2 M3):Kx S M M3:=⟨le_trans a.le b.le,λy h n=>(b.kp y (xJ h a.le) n).trans (a.kp y h n)⟩
theorem Kx.more {S:List Nat}(a:Kx S M M2)(h:∀ y∈S,y∈S'):Kx S' M M2:=⟨a.le,λy l n=>a.kp y l λz=>n (h y z)⟩
theorem Kx.get {S:List Nat}(a:Kx S M M2)(n:y∉S)(e:M[y]?=some ws):M2[y]?=some ws:=(a.kp y (zzg e).1 n).trans e
theorem Kx.set {S:List Nat}(a:Kx S M M2)(h:y∈S\/M.length<=y):Kx S M (M2.set y ws):=⟨by rw[length_set];exact a.le,λx l n=>(getElem?_set_ne λz=>by
 subst z;rcases h with z | z
 .exact n z
 .omega).trans (a.kp x l n)⟩
def zGQ (w h:Nat)(Z:Nat->Prop)(M:Mem)(t:Nat):Prop:=∃ l:Lp,Rw M t 0 l ((tabB w h).map (List.map λq=>fmD q))/\¬ Z t/\∀ p∈l,¬ Z p.1
theorem zGQ.keep {S:List Nat}(e:zGQ w h Z M t)(k:Kx S M M2)(b:∀ y∈S,Z y):zGQ w h Z M2 t:=let ⟨l,h1,h2,h3⟩:=e;⟨l,⟨h1.ll.keep (k.kp t h1.ll.lt.1 λz=>h2 (b t z)) λp a=>k.kp p.1 (h1.ll.lt.2 p a) λz=>h3 p a (b _ z),h1.lo,h1.top,h1.snd⟩,h2,h3⟩
noncomputable def psR (i j:Nat):List (Int×Int):=((List.range i).filter λc=>decide (c < 2)).map λc:Nat=>((c:Int),(j:Int))
noncomputable def psB (w h:Nat):List (Int×Int):=(List.range h).flatMap (psR w)
abbrev tsW (w h:Nat):List W:=(psB w h).map zEN
theorem zHH (w j:Nat):psB w (j+1)=psB w j++psR w j:=by unfold psB;rw[List.range_succ,List.flatMap_append];simp
theorem zHG (i j:Nat):psR (i+1) j=psR i j++if i < 2 then [((i:Int),(j:Int))] else []:=by
 unfold psR;rw[List.range_succ,List.filter_append,yq];by_cases q:i < 2<;>simp[q]
theorem zI1 (i j:Nat):(psR i j).length<=i:=by
 unfold psR;rw[List.length_map];exact le_trans (List.length_filter_le _ _) (by simp)
theorem zDr (w h:Nat):(psB w h).length<=w*h:=by
 induction h with
 | zero=>exact le_refl _
 | succ h a=>rw[zHH,qj,Nat.mul_succ];exact Nat.add_le_add a (zI1 _ _)
theorem xne (b:Bool):cmpD .NotEq (fmD b) (rsD [1,0,0,0,0])=some (.bl b,.cl):=by cases b<;>kernel_rfl
theorem m43 (f:Fl w h)(e:zGQ w h Z M t)(hQ:Q (.loc M.length,M++[tsW w h])):EvP (FM43 [.loc t] M) Q:=by
 obtain⟨l,hR,_⟩:=e;have w2:=f.w2;have h2':=f.h2;refine zDL rfl (by decide) ?_;unfold mb43;show EvP (evSs' GL2 D6 _ ⟨[some (.loc t),none,none,none],M⟩) _;refine zAC (zBW (zFw (zAW ⟨zero_le _,zAZ ?_⟩)));(walk_at "s");have dr:∀ U:Mem,drW (M++U) (.loc t)=some (.lst (((tabB w h).map (List.map λq=>fmD q)).map .lst)):=λU=>(hR.keep zF4).dr
 have at1:∀ {i:Nat},i < h->atI (((tabB w h).map (List.map λq=>fmD q)).map D.lst) (i:Int)=some (.lst ((rowB w).map λq=>fmD q)):=λ{i} hi=>zCQ (by
  rw[getElem?_map,getElem?_map];unfold tabB;rw[getElem?_map,getElem?_range hi]
  rfl)
 have rl:(rowB w).length=w:=by unfold rowB;rw[List.length_map,length_range]
 refine zAC (zCX (zDo (zAy rfl (zC5 (zAm (zAL rfl (dr _)) (zF1 (zAo rfl ⟨_,rfl,by rw[List.length_map,List.length_map,zG9];omega,?_⟩)))))));rw[List.length_map,List.length_map,zG9,toNat_natCast];refine zC4 (s:=⟨_,_⟩) ((rngL 0 h).map .dat) (λj s=>∃ (o2 o3:Option W),s=⟨[some (.loc t),some (.loc M.length),o2,o3],M++[tsW w j]⟩) (by rw[nrng];omega) (λ_ _ _=>rfl) ?_ ?_ ⟨none,none,rfl⟩
 .rintro j y s ey ⟨o2,o3,rfl⟩;obtain⟨rfl,hj⟩:=idx ey;refine⟨_,rfl,?_⟩;dsimp only;(walk_at "s");refine zAC (zCX (zDo (zAy rfl (zC5 (zIQ (zAm (zAL rfl (dr _)) (zAm (zAL rfl zAN) (zFG (at1 hj) (zF1 (zAo rfl ⟨_,rfl,by rw[List.length_map,rl];omega,?_⟩))))))))));rw[List.length_map,rl,toNat_natCast];refine zC4 (s:=⟨_,_⟩) ((rngL 0 w).map .dat) (λi s=>∃ (o3:Option W),s=⟨[some (.loc t),some (.loc M.length),some (.dat (.int (j:Int))),o3],M++[tsW w j++(psR i j).map zEN]⟩) (by rw[nrng];omega) (λ_ _ _=>rfl) ?_ ?_ ⟨o3,by rw[show psR 0 j=[] from rfl,map_nil,append_nil]⟩
  .rintro i y s ey ⟨o3,rfl⟩;obtain⟨rfl,hi⟩:=idx ey;have e2:(rowB w)[i]?=some (decide (i < 2)):=by unfold rowB;rw[getElem?_map,getElem?_range hi];rfl
   refine⟨_,rfl,?_⟩;dsimp only;(walk_at "s");refine zAC (zA9 (zEt rfl (zCU (zIQ (zIQ (zAm (zAL rfl (dr _)) (zAm (zAL rfl zAN) (zFG (at1 hj) (zAm (zAL rfl zAN) (zFG (d:=fmD (decide (i < 2))) (zCQ (by rw[getElem?_map,e2];rfl)) (zBv rfl (zCV ?_))))))))))));refine h13 _ (n_cl ⟨_,xne _,?_⟩);have l1:=zDr w j;have l2:=zI1 i j;have l3:w*j<=3*2:=Nat.mul_le_mul w2 (by omega);refine⟨_,rfl,λz=>?_,λz=>zAe (zAZ (zAe ⟨some (.dat (.int (i:Int))),?_⟩))⟩
   .have z':i < 2:=of_decide_eq_true z;refine zAC (zMy (zAH rfl (zJX (zAE (zAH rfl (zAE (zAH rfl (zAW ⟨by show 2<=10000;decide,_,_,rfl,zBR,by rw[qj,List.length_map,List.length_map];omega,zAZ (zAe (zAZ (zAe ?_)))⟩))))))));dsimp only;rw[zLq];exact⟨_,by rw[zHG,if_pos z',yq,qJ];rfl⟩
   .have z':¬ i < 2:=of_decide_eq_false z;rw[zHG,if_neg z',append_nil]
  .rintro s ⟨o3,rfl⟩;rw[nrng];exact zAZ (zAe ⟨some (.dat (.int (j:Int))),o3,by unfold tsW;rw[zHH,yq]⟩)
 .rintro s ⟨o2,o3,rfl⟩;rw[nrng];exact zAZ (zAC (zCp (zAH rfl (zDb hQ))))
noncomputable def putP (l:List W)(p:Int×Int):List W:=zGE [p.1,p.2] (zEN p) (.dat (.bl true)) l
noncomputable def mkW (w h:Nat):List W:=(psB w h).foldl putP []
theorem zSs (f:Fl w h)(a:l=[]\/l=mkW w h):(psB w h).foldl putP l=mkW w h:=by
 rcases a with rfl | rfl
 .rfl
 .revert f
  apply Fl.ind<;>kernel_rfl
abbrev pNs:List Str:=["width","height","watcher","order","layers","laid","count","marks","grounds"]
structure PP where
 x:Nat
 o:Nat
 a:Nat
 b:Nat
 m:Nat
 g:Nat
abbrev picW (P:PP):W:=.ob "Picture" pNs P.x
abbrev picC (w h:Nat) (P:PP) (c:Int):List W:=[.dat (.int (w:Int)),.dat (.int (h:Int)),.dat .non,.loc P.o,.di false P.a,.di false P.b,.dat (.int c),.di true P.m,.loc P.g]
theorem zOe (f:Fl w h)(i:M[P.x]?=some (picC w h P c))(u:M[P.b]?=some lb)(o:zAj [k] lb=some (.loc t))(v:zGQ w h Z M t)(l:M[P.m]?=some lm)(q:lm=[]\/lm=mkW w h)(C:P.x≠P.m)
  (r:∀ (M':Mem),Kx [P.m] M M'->M'[P.m]?=some (mkW w h)->Q (.dat .non,M')):EvP (zA8 [picW P,.dat (.int k)] M) Q:=by
 refine zDL rfl (by decide) ?_;unfold zCZ;show EvP (evSs' GL2 D12 _ ⟨[some (picW P),some (.dat (.int k)),none],M⟩) _;refine zAC (zCX (zEu (zFx (F:=FM43) rfl (zAE (zQ3 (zBh (zAH rfl ⟨_,_,_,_,_,rfl,by decide +kernel,i,rfl,zAH rfl ⟨_,_,[k],lb,_,rfl,rfl,rfl,u,o,zAW ?_⟩⟩)))))));refine(show EvP (FM43 [.loc t] M) _ from ?_);refine m43 f v ⟨_,rfl,?_⟩;have z:P.m < M.length:=(zzg l).1;have ll:lm.length<=9000:=by
  rcases q with rfl | rfl
  .exact zero_le _
  .clear l i u o v r
   revert f
   apply Fl.ind<;>decide +kernel
 refine zC4 (s:=⟨_,_⟩) (tsW w h) (λj s=>∃ (g:Option W) (M':Mem),s=⟨[some (picW P),some (.dat (.int k)),g],M'⟩/\Kx [P.m] M M'/\M'[M.length]?=some (tsW w h)/\M'[P.m]?=some (((psB w h).take j).foldl putP lm)/\(((psB w h).take j).foldl putP lm).length<=9000+j) (by rw[List.length_map];have:=zDr w h;have:w*h<=3*2:=Nat.mul_le_mul f.w2 f.h2;omega) (λj s a=>by obtain⟨_,M',es,_,e,_⟩:=a;subst es;exact e) ?_ ?_ ⟨none,_,rfl,zF4.kx,zBR,zBD l,ll⟩
 .rintro j y s n ⟨g,M',rfl,b,m,d,D⟩;rw[getElem?_map] at n;obtain⟨p,x,rfl⟩:=yj.mp n;have H:j < (psB w h).length:=(zzg x).1;have E:=zDr w h;have G:w*h<=3*2:=Nat.mul_le_mul f.w2 f.h2;refine⟨_,rfl,?_⟩;dsimp only;(walk_at "s");refine zAC (zN1 (zAy rfl (zPX (zAo rfl (zBh (zAH rfl ⟨_,_,_,_,_,rfl,by decide +kernel,b.get (by simpa using C) i,rfl,zAH rfl ⟨_,_,[p.1,p.2],_,rfl,rfl,d,⟨rfl,by omega⟩,zAZ (zAe ?_)⟩⟩))))));dsimp only;have B:=b.le;have A:(psB w h).take (j+1)=(psB w h).take j++[p]:=by rw[List.take_add_one,x];rfl
  rw[A,List.foldl_append];exact⟨_,_,rfl,b.set (.inl (by simp)),by rw[getElem?_set_ne (by omega)];exact m,getElem?_set_self (by omega),le_trans zOi (by omega)⟩
 .rintro s ⟨g,M',rfl,b,m,d,D⟩;rw[List.length_map,List.take_length,zSs f q] at d;exact zAZ (zAe (r M' b d))
abbrev ordW (is:List Int):List W:=(is.map D.int).map W.dat
theorem zDh:∀ is:List Int,zDZ (ordW is)=some is
 | []=>rfl
 | i::is=>by show (zDZ (ordW is)).map _=_;rw[zDh is];rfl
abbrev PP.S (P:PP):List Nat:=[P.x,P.o,P.a,P.b,P.m]
structure zCo (Z:Nat->Prop)(w h B:Nat)(M:Mem)(P:PP)(is:List Int)(c:Int):Prop where
 d:P.o < P.a/\P.a < P.b/\P.b < P.m/\P.m < P.g/\P.g < P.x
 gr:P.g=P.m+1+h
 hz:∀ y,P.o<=y->y<=P.x->Z y
 hx:M[P.x]?=some (picC w h P c)
 ho:M[P.o]?=some (ordW is)
 ha:∃ la,M[P.a]?=some la/\wfD la/\la.length<=B/\∀ k,(zAj [k] la).isSome=true<->k∈is
 hb:∃ lb,M[P.b]?=some lb/\wfD lb/\lb.length<=B/\∀ k∈is,∃ t,zAj [k] lb=some (.loc t)/\zGQ w h Z M t
 hm:∃ lm,M[P.m]?=some lm/\(lm=[]\/lm=mkW w h)
 hg:M[P.g]?=some (news (P.m+1) h)
 hr:∀ j,j < h->∃ r,M[P.m+1+j]?=some r/\r.length=w
 nd:is.Nodup
 ln:is.length<=B
 lt:∀ k∈is,k < c
theorem zCo.zS (p:zCo Z w h B M P is c):∀ y∈P.S,Z y:=λy a=>by
 have:=p.d;simp only[PP.S,mem_cons,not_mem_nil,or_false] at a;exact p.hz y (by omega) (by omega)
theorem zCo.keep {S:List Nat}(p:zCo Z w h B M P is c)(k:Kx S M M')(hS:∀ y∈S,Z y)(dj:∀ y∈S,y < P.o\/P.x < y):zCo Z w h B M' P is c:=by
 obtain⟨d1,d2,d3,d4,d5⟩:=p.d;have gr:=p.gr;have no:∀ {y:Nat},P.o<=y->y<=P.x->y∉S:=λa b z=>by rcases dj _ z with q | q<;>omega
 obtain⟨la,a1,a2⟩:=p.ha;obtain⟨lb,b1,b2,b3,b4⟩:=p.hb;obtain⟨lm,m1,m2⟩:=p.hm;exact⟨p.d,p.gr,p.hz,k.get (no (by omega) (by omega)) p.hx,k.get (no (by omega) (by omega)) p.ho,⟨la,k.get (no (by omega) (by omega)) a1,a2⟩,⟨lb,k.get (no (by omega) (by omega)) b1,b2,b3,λk' hk=>let ⟨t,t1,t2⟩:=b4 k' hk;⟨t,t1,t2.keep k hS⟩⟩,⟨lm,k.get (no (by omega) (by omega)) m1,m2⟩,k.get (no (by omega) (by omega)) p.hg,(λj hj=>let ⟨r,r1,r2⟩:=p.hr j hj;⟨r,k.get (no (by omega) (by omega)) r1,r2⟩),p.nd,p.ln,p.lt⟩
theorem zFC (d:M[P.x]?=some (picC w h P c))(b:M[P.a]?=some la)(a:(zAj [k] la).isSome=true)(e:Q (.dat .non,M)):EvP (zAT [picW P,.dat (.int k)] M) Q:=by
 refine zDL rfl (by decide) ?_;unfold zAf;show EvP (evSs' GL2 D11 _ ⟨[some (picW P),some (.dat (.int k))],M⟩) _;refine zAC (zA9 (zNw (zAH rfl (zBh (zAH rfl ⟨_,_,_,_,_,rfl,by decide +kernel,d,rfl,⟨_,_,[k],la,rfl,rfl,rfl,b,?_,λ_=>zAe (zAZ (zAe e))⟩⟩)))));dsimp only;rw[a];exact λz=>nomatch z
theorem zE1 :∀ {is:List Int},k∈is->∃ j,posI k is=some j/\is.eraseIdx j=is.erase k/\(is.eraseIdx j).take j++k::(is.eraseIdx j).drop j=is
 | [],h=>absurd h (by simp)
 | x::r,h=>by
  unfold posI;by_cases q:x=k
  .subst q;exact⟨0,if_pos rfl,by simp,by simp⟩
  .obtain ⟨j,e1,e2,e3⟩:=zE1 (show k∈r by simpa [Ne.symm q] using h);refine⟨j+1,by rw[if_neg q,e1];rfl,?_,?_⟩
   .rw [List.eraseIdx_cons_succ,e2,List.erase_cons_tail (by simpa using q)]
   .rw [List.eraseIdx_cons_succ,List.take_succ_cons,List.drop_succ_cons,List.cons_append,e3]
theorem zFo:∀ (is:List Int) (j:Nat),(ordW is).eraseIdx j=ordW (is.eraseIdx j)
 | [],_=>rfl
 | _::_,0=>rfl
 | x::r,j+1=>by
  show W.dat (.int x)::(ordW r).eraseIdx j=_;rw[zFo r j]
  rfl
section
variable {Z:Nat->Prop}{w h B:Nat}{M:Mem}{P:PP}{is:List Int}{c k:Int}{Q:MR->Prop}
theorem zLS (f:Fl w h)(p:zCo Z w h B M P is c)(l:k∈is)(o:∀ M':Mem,Kx P.S M M'->zCo Z w h B M' P is c->Q (.dat .non,M')):EvP (zA8 [picW P,.dat (.int k)] M) Q:=by
 obtain⟨G,H,z,C,F⟩:=p.d;have E:=p.gr;obtain⟨x,g,u⟩:=p.ha;obtain⟨d,b1,b2,b3,b4⟩:=p.hb;obtain⟨A,b,m⟩:=p.hm;obtain⟨t,q,v⟩:=b4 k l;have e:∀ y∈[P.m],Z y:=by simpa using p.zS P.m (by simp)
 exact zOe f p.hx b1 q v b m (by omega) λM' a i=>o M' (a.more (by simp)) ⟨p.d,p.gr,p.hz,a.get (by simp;omega) p.hx,a.get (by simp;omega) p.ho,⟨x,a.get (by simp;omega) g,u⟩,⟨d,a.get (by simp;omega) b1,b2,b3,λk' n=>let ⟨t',t3,t4⟩:=b4 k' n;⟨t',t3,t4.keep a e⟩⟩,⟨_,i,.inr rfl⟩,a.get (by simp;omega) p.hg,(λj s=>let ⟨r,r1,r2⟩:=p.hr j s;⟨r,a.get (by simp;omega) r1,r2⟩),p.nd,p.ln,p.lt⟩
theorem zPm (f:Fl w h)(p:zCo Z w h B M P is c)(n:k∈is)(hQ:∀ M':Mem,Kx P.S M M'->zCo Z w h B M' P (is.erase k) c->Q (.dat .non,M')):EvP (zBU [picW P,.dat (.int k)] M) Q:=by
 refine zDL rfl (by decide) ?_;unfold zBQ;show EvP (evSs' GL2 D15 _ ⟨[some (picW P),some (.dat (.int k))],M⟩) _;refine zAC (zBq (zDa (zAH rfl ⟨_,_,_,zAT,rfl,rfl,rfl,by decide +kernel,zAE (zAH rfl (zAW ?_))⟩)));refine(show EvP (zAT [picW P,.dat (.int k)] M) _ from ?_);obtain⟨b7,F,_,_,K⟩:=p.ha;refine zFC p.hx F ((K k).mpr n) (zAZ ?_);refine zAC (zBq (zDa (zAH rfl ⟨_,_,_,zA8,rfl,rfl,rfl,by decide +kernel,zAE (zAH rfl (zAW ?_))⟩)));refine(show EvP (zA8 [picW P,.dat (.int k)] M) _ from ?_);refine zLS f p n λM1 W d=>zAZ ?_
 dsimp only;obtain⟨d1,d2,d3,d4,d5⟩:=p.d;have gr:=p.gr;have J:=p.zS;obtain⟨g,a1,U,a3,V⟩:=d.ha;obtain⟨C,b1,b2,b3,b4⟩:=d.hb;obtain⟨lm,m1,m2⟩:=d.hm;have s:=d.hx;have o:=d.ho;have a0:=d.ln;obtain⟨j,j1,Y,_⟩:=zE1 n;refine zAC (zQH (zBh (zAH rfl ⟨_,_,_,_,_,rfl,by decide +kernel,s,rfl,_,rfl,zAH rfl ⟨_,_,_,j,rfl,o,zDh is,j1,zAZ ?_⟩⟩)));dsimp only;rw[zFo,Y];have e:Kx [P.o] M1 (M1.set P.o (ordW (is.erase k))):=(zF3.kx).set (.inl (by simp));have L:(M1.set P.o (ordW (is.erase k)))[P.o]?=some (ordW (is.erase k)):=getElem?_set_self (zzg o).1;have I:=e.get (y:=P.x) (by simp;omega) s;have A:=e.get (y:=P.a) (by simp;omega) a1;have b5:=e.get (y:=P.b) (by simp;omega) b1;have S:=e.get (y:=P.m) (by simp;omega) m1;generalize M1.set P.o (ordW (is.erase k))=M2 at e L I A b5 S;obtain⟨u,X⟩:∃ u,zAj [k] g=some u:=Option.isSome_iff_exists.mp ((V k).mpr n);obtain⟨t,t1,t2⟩:=b4 k n;refine zAC (zBq (zNL (zBh (zAH rfl ⟨_,_,_,_,_,rfl,by decide +kernel,I,rfl,_,rfl,zAH rfl ⟨[k],g,u,rfl,rfl,A,X,zAZ ?_⟩⟩))));dsimp only;have i:Kx [P.a] M2 (M2.set P.a (zBw [k] g)):=(zF3.kx).set (.inl (by simp));have T:(M2.set P.a (zBw [k] g))[P.a]?=some (zBw [k] g):=getElem?_set_self (zzg A).1;have D:=i.get (y:=P.x) (by simp;omega) I;have O:=i.get (y:=P.o) (by simp;omega) L;have b6:=i.get (y:=P.b) (by simp;omega) b5;have N:=i.get (y:=P.m) (by simp;omega) S;generalize M2.set P.a (zBw [k] g)=M3 at i T D O b6 N;refine zAC (zBq (zNL (zBh (zAH rfl ⟨_,_,_,_,_,rfl,by decide +kernel,D,rfl,_,rfl,zAH rfl ⟨[k],C,_,rfl,rfl,b6,t1,zAZ (zAe ?_)⟩⟩))));dsimp only;have m:Kx [P.b] M3 (M3.set P.b (zBw [k] C)):=(zF3.kx).set (.inl (by simp));have x:Kx P.S M1 (M3.set P.b (zBw [k] C)):=((e.more (by simp)).trans (i.more (by simp))).trans (m.more (by simp));have G:∀ y,y∈is.erase k<->y≠k/\y∈is:=λy=>p.nd.mem_erase_iff
 have R:∀ {y:Nat},P.m < y->y < P.x->y∉P.S:=λa b z=>by simp only[PP.S,mem_cons,not_mem_nil,or_false] at z;omega
 refine hQ _ (W.trans x) ⟨p.d,p.gr,p.hz,m.get (by simp;omega) D,m.get (by simp;omega) O,⟨_,m.get (by simp;omega) T,zIa U,le_trans zHR (by omega),λy=>?_⟩,⟨_,getElem?_set_self (zzg b6).1,zIa b2,le_trans zHR (by omega),λy H=>?_⟩,⟨lm,m.get (by simp;omega) N,m2⟩,x.get (R (by omega) (by omega)) d.hg,(λj hj=>let ⟨r,r1,r2⟩:=d.hr j hj;⟨r,x.get (R (by omega) (by omega)) r1,r2⟩),p.nd.erase k,by have:=List.length_erase_le (a:=k) (l:=is);omega,λy H=>p.lt y ((G y).mp H).2⟩
 .rw [zED U,G];by_cases z:y=k
  .subst z;simp
  .rw [if_neg (λq=>z (by simpa using q)),V y];simp[z]
 .obtain ⟨z,E⟩:=(G y).mp H;obtain⟨t',q1,q2⟩:=b4 y E;rw[zED b2,if_neg (λq=>z (by simpa using q))];exact⟨t',q1,q2.keep x J⟩
end
theorem zP4 (h:EvP (evT J B a s) λr=>r.1=false/\EvP (evT J B b ⟨s.G,r.2⟩) Q):EvP (evT J B (.orl (.cons a (.cons b .nil))) s) Q:=by
 obtain⟨_,c,d,z,e,q⟩:=h;refine⟨z,?_,q⟩;show orB _ (evT J B b) s=_;unfold orB;grind
theorem zNx (h:EvP (evM J B (.call n f es) s) λr=>∃ c,r.1=.dat (.bl c)/\Q (!c,r.2)):EvP (evT J B (.not (.call n f es)) s) Q:=by
 obtain⟨⟨r,m⟩,e1,c,e2,q⟩:=h;refine⟨_,?_,q⟩;show notB (asBM _) s=_;unfold notB asBM
 simp_all
abbrev gD (b:Bool):D:=rsD (cond b [1,255,0,7] [0,0,0,0])
theorem x17 (q b:Bool):F17 [fmD q,gD b]=some (gD (q||b),.cl):=by cases q<;>cases b<;>kernel_rfl
theorem zSq (b:Bool):noL (gD b)=true:=by cases b<;>rfl
structure GrOk (Z:Nat->Prop)(w h:Nat)(M:Mem)(P:PP)(is:List Int)(c:Int):Prop where
 hx:M[P.x]?=some (picC w h P c)
 ho:M[P.o]?=some (ordW is)
 hb:∃ lb,M[P.b]?=some lb/\∀ k∈is,∃ t,zAj [k] lb=some (.loc t)/\zGQ w h Z M t
theorem GrOk.keep {S:List Nat}(p:GrOk Z w h M P is c)(k:Kx S M M')(f:∀ y∈S,Z y)(e:P.x∉S)(d:P.o∉S)(b:P.b∉S):GrOk Z w h M' P is c :=
 let ⟨lb,b1,b2⟩:=p.hb
 ⟨k.get e p.hx,k.get d p.ho,lb,k.get b b1,λk' a=>let ⟨t,t1,t2⟩:=b2 k' a;⟨t,t1,t2.keep k f⟩⟩
theorem zC3 (e:atI ws i=some u)(h:Q (u,M)):EvP (ixW (.tup ws) (.dat (.int i)) M) Q:=⟨_,by show ((atI ws i).map λu=>(u,M))=_;rw[e];rfl,h⟩
theorem zJ0 (p:GrOk Z w h M P is c)(ll:is.length<=6)(D:i < w)(u:j < h)(v:∀ b,Q (.dat (gD b),M)):EvP (zAr [picW P,.dat (.int (i:Int)),.dat (.int (j:Int))] M) Q:=by
 refine zDL rfl (by decide) ?_;unfold zBg;show EvP (evSs' GL2 D18 _ ⟨[some (picW P),some (.dat (.int (i:Int))),some (.dat (.int (j:Int))),none,none],M⟩) _;obtain⟨A,b1,b2⟩:=p.hb;refine zAC (zBW (zAy rfl (zBv rfl (zCV (h14 _ (n_cl (zAo rfl (zAZ ?_))))))));(walk_at "s");refine zAC (zCX (zEu (zBh (zAH rfl ⟨_,_,_,_,_,rfl,by decide +kernel,p.hx,rfl,_,rfl,?_⟩))));refine zC4 (s:=⟨_,_⟩) (ordW is) (λ_ s=>∃ (b:Bool) (o:Option W),s=⟨[some (picW P),some (.dat (.int (i:Int))),some (.dat (.int (j:Int))),some (.dat (gD b)),o],M⟩) (by rw[List.length_map,List.length_map];omega) (λ_ s a=>by obtain⟨_,_,es⟩:=a;subst es;exact p.ho) ?_ ?_ ⟨false,none,rfl⟩
 .rintro n y s m ⟨b,o,rfl⟩;rw[getElem?_map,getElem?_map] at m;obtain⟨d,C,rfl⟩:=yj.mp m;obtain⟨k,E,rfl⟩:=yj.mp C;obtain⟨t,z,l,R,_⟩:=b2 k (mem_of_getElem? E);refine⟨_,rfl,?_⟩;dsimp only;(walk_at "s");have g:(l.map λp=>p.2)[j]?=some ((rowB w).map λq=>fmD q):=by
   rw[R.snd,getElem?_map];unfold tabB;rw[getElem?_map,getElem?_range u]
   rfl
  rw[getElem?_map] at g;obtain⟨r,f,x⟩:=yj.mp g;have e:=R.ll.row r (mem_of_getElem? f);rw[x] at e;have B:(rowB w)[i]?=some (decide (i < 2)):=by unfold rowB;rw[getElem?_map,getElem?_range D];rfl
  refine zAC (zBW (zFx (F:=zIG F17) rfl (zAE (m_ix (m_ix (zQ3 (zBh (zAH rfl ⟨_,_,_,_,_,rfl,by decide +kernel,p.hx,rfl,zAH rfl ⟨_,_,[k],A,_,rfl,rfl,rfl,b1,z,zAH rfl ?_⟩⟩))))))));refine zEd (w:=.loc r.1) R.ll.top (zCQ (by rw[getElem?_map,f];rfl)) (zAH rfl ?_);refine zEd (w:=.dat (fmD (decide (i < 2)))) e (zCQ (by rw[getElem?_map,getElem?_map,B];rfl)) (zAE (zAH rfl (zAW ?_)));refine zOh (ds:=[fmD (decide (i < 2)),gD b]) rfl ⟨_,x17 _ _,zAo (zSq _) (zAZ (zAe ⟨_,_,rfl⟩))⟩
 .rintro s ⟨b,o,rfl⟩;exact zAZ (zAC (zCp (zAH rfl (zDb (v b)))))
theorem zMz (h:EvP (f s) λo=>∃ s',o=.nx s'/\EvP (g s') Q):EvP (seqM f g s) Q:=by
 obtain⟨o,e,s',rfl,z,a,q⟩:=h;refine⟨z,?_,q⟩;unfold seqM;rw[e];exact a
theorem zLJ (h:EvP (t s) λx=>∃ n ws ps,x.1=.di true n/\x.2[n]?=some ws/\prsW ws=some ps/\ps.length<=6/\Q (.loc x.2.length,x.2++[(ordP (ps.map Prod.swap)).map λi=>zEN (ps.getD i (0,0))])):EvP (zDq t s) Q:=by
 obtain⟨⟨x,m⟩,e,n,ws,ps,rfl,e1,e2,e3,q⟩:=h;refine⟨_,?_,q⟩;unfold zDq;rw[e];show ((m[n]?).bind _)=_;rw[e1];show ((prsW ws).bind _)=_;rw[e2];exact if_pos e3
theorem zN0 (h:EvP (evM J B e s) λr=>EvP (evM J B a ⟨s.G,r.2⟩) λx=>∃ c ns n ws,x.1=.ob c ns n/\((c,f,none)∈J.ob/\ns.contains f=true/\ns.length<=100)/\x.2[n]?=some ws/\Q (.nx ⟨s.G,x.2.set n (setA f r.1 ns ws)⟩)):EvP (evS' J B (.fput a f e) s) Q:=by
 obtain⟨r,b,⟨x,m⟩,e2,c,ns,n,ws,rfl,h1,h2,q⟩:=h;refine⟨_,?_,q⟩;show zMK J.ob (evM J B a) f (evM J B e) s=_;unfold zMK;rw[b,qx,e2,qx];dsimp only;rw[if_pos h1,h2]
 rfl
theorem srt (f:Fl w h)(hl:lm=[]\/lm=mkW w h):∃ ps,prsW lm=some ps/\ps.length<=6/\((ordP (ps.map Prod.swap)).map λi=>zEN (ps.getD i (0,0)))=(if lm=[] then [] else tsW w h):=by
 rcases hl with rfl | rfl
 .exact ⟨[],rfl,zero_le _,rfl⟩
 .refine ⟨psB w h,?_,le_trans (zDr w h) (Nat.mul_le_mul f.w2 f.h2),?_⟩
  .revert f
   apply Fl.ind<;>kernel_rfl
  .rw [if_neg (by revert f;apply Fl.ind<;>exact λz=>nomatch z)]
   revert f
   apply Fl.ind<;>kernel_rfl
theorem zSl (a:p∈psB w h):∃ i j:Nat,p=((i:Int),(j:Int))/\i < w/\j < h:=by
 unfold psB at a;obtain⟨j,c,a⟩:=List.mem_flatMap.mp a;unfold psR at a;obtain⟨i,b,rfl⟩:=mem_map.mp a;exact⟨i,j,rfl,mem_range.mp (mem_filter.mp b).1,mem_range.mp c⟩
abbrev PP.mm (P:PP) (n:Nat):PP:=⟨P.x,P.o,P.a,P.b,n,P.g⟩
abbrev PP.R (P:PP) (h:Nat):List Nat:=(List.range h).map λj=>P.m+1+j
theorem R_in {P:PP}:y∈P.R h->P.m < y/\y < P.m+1+h:=λhy=>by
 obtain⟨j,a,rfl⟩:=mem_map.mp hy;have:=mem_range.mp a;omega
theorem zHD (f:Fl w h)(hx:M[P.x]?=some (picC w h P c))(hm:M[P.m]?=some lm)(hl:lm=[]\/lm=mkW w h)
  (G:lm≠[]->zCo Z w h 6 M P is c)
  (hQ:∀ M':Mem,Kx (P.x::if lm=[] then [] else P.R h) M M'->M'[P.x]?=some (picC w h (P.mm (M.length+1)) c)->M'[M.length+1]?=some []->M'[M.length]?=some (if lm=[] then [] else tsW w h)->Q (.loc M.length,M')):EvP (zAh [picW P] M) Q:=by
 refine zDL rfl (by decide) ?_;show EvP (zIl GL2 D19 1 me2 mr2 ⟨[some (picW P),none,none],M⟩) _;obtain⟨ps,p1,p2,p3⟩:=srt f hl;have lx:P.x < M.length:=(zzg hx).1;refine zMz ?_;show EvP (setM 1 (zDq (evM GL2 D19 me2)) _) _;obtain⟨r,er,q⟩:EvP (zDq (evM GL2 D19 me2) ⟨[some (picW P),none,none],M⟩) λr=>r=(.loc M.length,M++[if lm=[] then [] else tsW w h]):=zLJ (zBh (zAH rfl ⟨_,_,_,_,_,rfl,by decide +kernel,hx,rfl,_,_,ps,rfl,hm,p1,p2,by rw[p3]⟩))
 subst q;refine⟨_,by unfold setM;rw[er];rfl,_,rfl,?_⟩;(walk_at "s");unfold mr2;generalize hts:(if lm=[] then [] else tsW w h)=ts at hQ;refine zAC (zN0 (⟨_,rfl,(zAH rfl ⟨_,_,_,_,rfl,⟨by decide +kernel,by decide +kernel,by decide⟩,zBD (zBD hx),zAZ ?_⟩)⟩));dsimp only;rw[show setA "marks" (.di true (M++[ts]).length) pNs (picC w h P c)=picC w h (P.mm (M++[ts]).length) c from rfl];have e1:(M++[ts]).length=M.length+1:=by simp
 rw[e1];have e2:(M++[ts]++[[]]:Mem).length=M.length+2:=by simp
 have k0:Kx [P.x] M ((M++[ts]++[[]]:Mem).set P.x (picC w h (P.mm (M.length+1)) c)):=(zF4.trans zF4).kx.set (.inl (by simp));have x0:((M++[ts]++[[]]:Mem).set P.x (picC w h (P.mm (M.length+1)) c))[P.x]?=some (picC w h (P.mm (M.length+1)) c):=getElem?_set_self (by omega);have t0:((M++[ts]++[[]]:Mem).set P.x (picC w h (P.mm (M.length+1)) c))[M.length]?=some ts:=by rw[getElem?_set_ne (by omega)];exact zBD zBR
 have m0:((M++[ts]++[[]]:Mem).set P.x (picC w h (P.mm (M.length+1)) c))[M.length+1]?=some []:=by rw[getElem?_set_ne (by omega),<- e1];exact zBR
 generalize (M++[ts]++[[]]:Mem).set P.x (picC w h (P.mm (M.length+1)) c)=M0 at k0 x0 t0 m0;have rest:∀ {Z3:Option W} {M':Mem},Kx (P.x::if lm=[] then [] else P.R h) M M'->M'[P.x]?=some (picC w h (P.mm (M.length+1)) c)->M'[M.length+1]?=some []->M'[M.length]?=some ts->EvP (evSs' GL2 D19 (.cons (.ife (.cmp .IsNot (.fld (.var 0) "watcher") (.pur .non)) (.cons .never .nil) .nil) (.cons (.ret (.var 1)) .nil)) ⟨[some (picW P),some (.loc M.length),Z3],M'⟩) (KFM Q):=λk1 x1 m1 t1 =>
  zAC (zA9 (zHy (zGl (zBh (zAH rfl ⟨_,_,_,_,_,rfl,by decide +kernel,x1,rfl,zAy rfl (zNY (zAo rfl ⟨_,_,zAN,zAN,(.bl false,.cl),rfl,zAo rfl ⟨_,rfl,(λz=>nomatch z),λ_=>zAe (zAZ (zAC (zCp (zAH rfl (zDb (hQ _ k1 x1 m1 t1))))))⟩⟩))⟩)))))
 refine zAC (zCX (zEu (zAH rfl ⟨_,rfl,?_⟩)));by_cases hz:lm=[]
 .rw [if_pos hz] at hts rest;subst hts;exact zC4 (s:=⟨_,_⟩) [] (λ_ s=>s=⟨[some (picW P),some (.loc M.length),none],M0⟩) (by decide) (λ_ s es=>by subst es;exact t0) (λj w s ew _=>by simp at ew) (λs es=>by subst es;exact zAZ (rest k0 x0 m0 t0)) rfl
 .rw [if_neg hz] at hts rest;have p:=G hz;obtain⟨d1,d2,d3,d4,d5⟩:=p.d;have gr:=p.gr;obtain⟨lb,b1,b2,b3,b4⟩:=p.hb;have zR:∀ y∈P.R h,Z y:=λy hy=>by have:=R_in hy;exact p.hz y (by omega) (by omega)
  have g0:GrOk Z w h M0 (P.mm (M.length+1)) is c:=⟨x0,k0.get (by simp;omega) p.ho,lb,k0.get (by simp;omega) b1,λk hk=>let ⟨t,t1,t2⟩:=b4 k hk;⟨t,t1,t2.keep k0 (by simpa using p.hz P.x (by omega) (by omega))⟩⟩;have gg:M0[P.g]?=some (news (P.m+1) h):=k0.get (by simp;omega) p.hg;have rr:∀ j,j < h->∃ r,M0[P.m+1+j]?=some r/\r.length=w:=λj hj=>let ⟨r,r1,r2⟩:=p.hr j hj;⟨r,k0.get (by simp;omega) r1,r2⟩
  have nR:∀ {y:Nat},(y<=P.m\/P.g<=y)->y∉P.R h:=λa z=>by have:=R_in z;omega
  have lg:P.m+1+h<=M0.length:=by have:=(zzg gg).1;omega
  refine zC4 (s:=⟨_,_⟩) ts (λ_ s=>∃ (o:Option W) (M':Mem),s=⟨[some (picW P),some (.loc M.length),o],M'⟩/\Kx (P.R h) M0 M'/\∀ j,j < h->∃ r,M'[P.m+1+j]?=some r/\r.length=w) (by rw[<- hts,List.length_map];have:=zDr w h;have:w*h<=3*2:=Nat.mul_le_mul f.w2 f.h2;omega) (λ_ s zy167=>by obtain⟨_,M',es,k1,_⟩:=zy167;subst es;exact k1.get (nR (by omega)) t0) ?_ ?_ ⟨none,M0,rfl,zF3.kx,rr⟩
  .rintro n y s ey ⟨o,M',rfl,k1,r1⟩;rw[<- hts,getElem?_map] at ey;obtain⟨q,eq,rfl⟩:=yj.mp ey;obtain⟨i,j,rfl,hi,hj⟩:=zSl (mem_of_getElem? eq);have g1:=g0.keep k1 zR (nR (by show _\/P.g<=P.x;omega)) (nR (by show P.o<=P.m\/_;omega)) (nR (by show P.b<=P.m\/_;omega));obtain⟨r,r2,r3⟩:=r1 j hj;refine⟨_,rfl,?_⟩;dsimp only;(walk_at "s");refine zAC (zQI (zDa (zAH rfl ⟨_,_,_,zAr,rfl,rfl,rfl,by decide +kernel,zAE (m_ix (zAH rfl (zAy rfl (zAd (zAo rfl (zC3 rfl (zAE (m_ix (zAH rfl (zAy rfl (zAd (zAo rfl (zC3 rfl (zAW ?_))))))))))))))⟩)));refine(show EvP (zAr [picW (P.mm (M.length+1)),.dat (.int (i:Int)),.dat (.int (j:Int))] M') _ from ?_);refine zJ0 g1 p.ln hi hj λb=>?_
   refine m_ix (zBh (zAH rfl ⟨_,_,_,_,_,rfl,by decide +kernel,g1.hx,rfl,m_ix (zAH rfl (zAy rfl (zAd (zAo rfl (zC3 rfl ?_)))))⟩));refine zEd (n:=P.g) (w:=.loc (P.m+1+j)) (k1.get (nR (by omega)) gg) (zCQ ((by unfold news;rw[getElem?_map,getElem?_range hj];rfl))) ?_;refine m_ix (zAH rfl (zAy rfl (zAd (zAo rfl (zC3 rfl ⟨_,_,r,i,rfl,rfl,r2,?_,zAZ (zAe ?_)⟩)))))
   .unfold ixN;rw[if_pos (by omega),if_pos (by omega),toNat_natCast]
   .refine ⟨_,_,rfl,k1.set (.inl (mem_map.mpr ⟨j,mem_range.mpr hj,rfl⟩)),λj' hj'=>?_⟩;by_cases q:j'=j
    .subst q;exact⟨_,getElem?_set_self (zzg r2).1,by rw[length_set];exact r3⟩
    .obtain ⟨r',a,b⟩:=r1 j' hj';exact⟨r',by rw[getElem?_set_ne (by omega)];exact a,b⟩
  .rintro s ⟨o,M',rfl,k1,r1⟩;refine zAZ (rest ?_ (k1.get (nR (by omega)) x0) (k1.get (nR (by omega)) m0) (k1.get (nR (by omega)) t0));exact(k0.more (by simp)).trans (k1.more λy hy=>qY _ hy)
section
variable {J:Gm}{B:Dm}{L:Xm}{s:Mst}{a b:MT}{Q:XR->Prop}{ws:List W}{M:Mem}{np nN:Nat}{g:Mst->Option XR}
theorem zKF (a:ws.length=np/\np<=nN)(h:EvP (g ⟨ws.map some++List.replicate (nN - np) none,M⟩) Q):EvP (zBx np nN g ws M) Q:=by
 unfold zBx;rw[if_pos a];exact h
theorem zRx (a:ws.length=np/\np<=nN)(h:g ⟨ws.map some++List.replicate (nN - np) none,M⟩=none):zBx np nN g ws M=none:=by
 unfold zBx;rw[if_pos a];exact h
theorem zBG (h:EvP (evX J B L a s) Q):EvP (evX J B L (.cons a b) s) Q:=by
 obtain⟨r,e,q⟩:=h;refine⟨r,?_,q⟩;show zEp (evX J B L a) (evS' J B a) (evX J B L b) s=_;unfold zEp;rw[e]
theorem zNm (d:evX J B L a s=none)(h:EvP (evS' J B a s) λo=>∃ s',o=.nx s'/\EvP (evX J B L b s') Q):EvP (evX J B L (.cons a b) s) Q:=by
 obtain⟨o,e,s',rfl,r,c,q⟩:=h;refine⟨r,?_,q⟩;show zEp (evX J B L a) (evS' J B a) (evX J B L b) s=_;unfold zEp;rw[d,e];exact c
theorem zGU (h0:evX J B L a s=none)(h:EvP (evS' J B a s) λo=>∀ s',o=.nx s'->evX J B L b s'=none):evX J B L (.cons a b) s=none:=by
 obtain⟨o,e,q⟩:=h;show zEp (evX J B L a) (evS' J B a) (evX J B L b) s=_;unfold zEp;rw[h0,e];cases o with
 | nx s'=>exact q s' rfl
 | _=>rfl
theorem zDl (h:EvP (evT J B c s) λr=>(r.1=true->EvP (evX J B L a ⟨s.G,r.2⟩) Q)/\(r.1=false->EvP (evX J B L b ⟨s.G,r.2⟩) Q)):EvP (evX J B L (.ife c a b) s) Q:=by
 obtain⟨⟨r,m⟩,e,q1,q2⟩:=h;show EvP (xifM (evT J B c) (evX J B L a) (evX J B L b) s) Q;unfold xifM;rw[e];cases r with
 | true=>exact q1 rfl
 | false=>exact q2 rfl
theorem zFZ (h:EvP (evT J B c s) λr=>(r.1=true->evX J B L a ⟨s.G,r.2⟩=none)/\(r.1=false->evX J B L b ⟨s.G,r.2⟩=none)):evX J B L (.ife c a b) s=none:=by
 obtain⟨⟨r,m⟩,e,q1,q2⟩:=h;show xifM (evT J B c) (evX J B L a) (evX J B L b) s=_;unfold xifM;rw[e];cases r with
 | true=>exact q1 rfl
 | false=>exact q2 rfl
theorem zET (h:EvP (evM J B t s) λx=>∃ c z,clsW m x.1=some c/\(L.find? λe=>decide (spec.lookup e.1=some (.mth c m)))=some z/\EvP (evMs J B (.cons e es) ⟨s.G,x.2⟩) λws=>EvP (z.2 (x.1::ws.1) ws.2) Q):EvP (evX J B L (.drop (.mth ix m t (.cons e es))) s) Q:=by
 obtain⟨x,e1,c,z,e2,e3,ws,e4,h⟩:=h;show EvP (zHt L m (evM J B t) (evMs J B (.cons e es)) s) Q;unfold zHt;rw[e1,qx,e2,qx,e3,qx,e4];exact h
theorem zIX (h:EvP (evM J B t s) λx=>∃ c z,clsW m x.1=some c/\(L.find? λe=>decide (spec.lookup e.1=some (.mth c m)))=some z/\EvP (evMs J B (.cons e es) ⟨s.G,x.2⟩) λws=>z.2 (x.1::ws.1) ws.2=none):evX J B L (.drop (.mth ix m t (.cons e es))) s=none:=by
 obtain⟨x,f,c,z,b,a,ws,d,h⟩:=h;show zHt L m (evM J B t) (evMs J B (.cons e es)) s=_;unfold zHt;rw[f,qx,b,qx,a,qx,d];exact h
theorem zMw (a:c∈J.rs)(h:Q (c,s.M)):EvP (evX J B L (.rse c (.str m)) s) Q:=by
 refine⟨_,?_,h⟩;show zJb (xrs J c (evEs J (.cons (.str m) .nil))) s=_;unfold zJb xrs;rw[if_pos a]
 rfl
end
section
variable {w h:Nat}{M:Mem}{P:PP}{is:List Int}{c k:Int}{la:List W}{Q:XR->Prop}
theorem fc1:(XE1.find? λe=>decide (spec.lookup e.1=some (.mth "Picture" "check_lies")))=some (("Picture.check_lies":Str),zAY):=by kernel_rfl
theorem fc2:(XE2.find? λe=>decide (spec.lookup e.1=some (.mth "Picture" "check_lies")))=some (("Picture.check_lies":Str),zAY):=by kernel_rfl
theorem fc3:(XE3.find? λe=>decide (spec.lookup e.1=some (.mth "Picture" "check_lies")))=some (("Picture.check_lies":Str),zAY):=by kernel_rfl
theorem fd4:(XE4.find? λe=>decide (spec.lookup e.1=some (.mth "Picture" "drop")))=some (("Picture.drop":Str),zBz):=by kernel_rfl
theorem fg4:(XE4.find? λe=>decide (spec.lookup e.1=some (.mth "Picture" "change")))=some (("Picture.change":Str),zBZ):=by kernel_rfl
theorem fl4:(XE4.find? λe=>decide (spec.lookup e.1=some (.mth "Picture" "lift")))=some (("Picture.lift":Str),zAn):=by kernel_rfl
theorem zJc (b:M[P.x]?=some (picC w h P c))(e:M[P.a]?=some la)(a:(zAj [k] la).isSome=false)(d:Q ("NoLayer",M)):EvP (zAY [picW P,.dat (.int k)] M) Q:=by
 refine zKF ⟨rfl,by decide⟩ ?_;unfold zAf;show EvP (evX GL2 D20 XE0 _ ⟨[some (picW P),some (.dat (.int k))],M⟩) _;refine zBG (zDl (zNw (zAH rfl (zBh (zAH rfl ⟨_,_,_,_,_,rfl,by decide +kernel,b,rfl,⟨_,_,[k],la,rfl,rfl,rfl,e,λ_=>zBG (zMw (by decide +kernel) d),λz=>?_⟩⟩)))));dsimp only at z;rw[a] at z;cases z
theorem zNM (b:M[P.x]?=some (picC w h P c))(e:M[P.a]?=some la)(d:(zAj [k] la).isSome=true):zAY [picW P,.dat (.int k)] M=none:=by
 refine zRx ⟨rfl,by decide⟩ ?_;unfold zAf;show evX GL2 D20 XE0 _ ⟨[some (picW P),some (.dat (.int k))],M⟩=none;have a:∀ {Q:MB->Prop},Q (false,M)->EvP (evT GL2 D20 (.nid (.var 1) (.fld (.var 0) "layers")) ⟨[some (picW P),some (.dat (.int k))],M⟩) Q:=λq=>zNw (zAH rfl (zBh (zAH rfl ⟨_,_,_,_,_,rfl,by decide +kernel,b,rfl,⟨_,_,[k],la,rfl,rfl,rfl,e,by rw[d];exact q⟩⟩)))
 exact zGU (zFZ (a ⟨(λz=>nomatch z),λ_=>rfl⟩)) (zA9 (a ⟨(λz=>nomatch z),λ_=>zAe λ_ _=>rfl⟩))
theorem zSG (a:M[P.x]?=some (picC w h P c))(d:M[P.a]?=some la)(b:(zAj [k] la).isSome=false)(e:Q ("NoLayer",M)):EvP (zBz [picW P,.dat (.int k)] M) Q:=by
 refine zKF ⟨rfl,by decide⟩ ?_;unfold zBQ;exact zBG (zET (zAH rfl ⟨_,_,rfl,fc1,zAE (zAH rfl (zAW (zJc a d b e)))⟩))
theorem zMm (d:M[P.x]?=some (picC w h P c))(b:M[P.a]?=some la)(a:(zAj [k] la).isSome=false)(e:Q ("NoLayer",M)):EvP (zBZ [picW P,.dat (.int k),L] M) Q:=by
 refine zKF ⟨rfl,by decide⟩ ?_;unfold zCC;exact zBG (zET (zAH rfl ⟨_,_,rfl,fc2,zAE (zAH rfl (zAW (zJc d b a e)))⟩))
theorem zSa {Q:MB->Prop}(h:EvP (evT J B a s) λr=>r.1=true/\Q (true,r.2)):EvP (evT J B (.orl (.cons a (.cons b .nil))) s) Q:=by
 obtain⟨⟨r,m⟩,e1,e2,q⟩:=h;cases e2;refine⟨_,?_,q⟩;show orB (evT J B a) (evT J B b) s=_;unfold orB;rw[e1,qx,if_pos rfl]
theorem zE3 {Q:MB->Prop}(d:M[P.x]?=some (picC w h P c))(b:M[P.o]?=some (ordW is))(e:decide (q < 0\/(is.length:Int)<=q)=v)(a:Q (v,M)):EvP (evT GL2 B (.orl (.cons (.pur (.cmp .Lt (.var 2) (.int 0))) (.cons (.cmp .GtE (.var 2) (.len (.fld (.var 0) "order"))) .nil))) ⟨[some (picW P),some (.dat (.int k)),some (.dat (.int q))],M⟩) Q:=by
 subst e;by_cases z:q < 0
 .rw [decide_eq_true (.inl z)] at a;exact zSa (zEt rfl (zCU (zAm (zAL rfl zAN) (zAd (c_lt ⟨_,rfl,decide_eq_true z,a⟩)))))
 .refine zP4 (zEt rfl (zCU (zAm (zAL rfl zAN) (zAd (c_lt ⟨_,rfl,decide_eq_false z,?_⟩)))));refine zHy (zGl (zAH rfl (zSu (zBh (zAH rfl ⟨_,_,_,_,_,rfl,by decide +kernel,d,rfl,_,_,rfl,b,_,_,zAN,zAN,c_ge (zAo rfl ⟨_,rfl,?_⟩)⟩)))));rw[show decide (q < 0\/(is.length:Int)<=q)=decide ((is.length:Int)<=q) by simp[z]] at a;dsimp only;rw[List.length_map,List.length_map];exact a
theorem zQ7 (a:M[P.x]?=some (picC w h P c))(f:M[P.o]?=some (ordW is))(b:M[P.a]?=some la)(d:(zAj [k] la).isSome=true)(e:q < 0\/(is.length:Int)<=q)(g:Q ("NoPlace",M)):EvP (zAn [picW P,.dat (.int k),.dat (.int q)] M) Q:=by
 refine zKF ⟨rfl,by decide⟩ ?_;unfold zAu;refine zNm (zIX (zAH rfl ⟨_,_,rfl,fc3,zAE (zAH rfl (zAW (zNM a b d)))⟩)) (zBq (zDa (zAH rfl ⟨_,_,_,zAT,rfl,rfl,rfl,by decide +kernel,zAE (zAH rfl (zAW (zFC a b d ⟨_,rfl,?_⟩)))⟩)));exact zBG (zDl (zE3 a f (decide_eq_true e) ⟨λ_=>zBG (zMw (by decide +kernel) g),(λz=>nomatch z)⟩))
theorem zQ6 {Q:MR->Prop}(hx:M[P.x]?=some (picC w h P c))(ho:M[P.o]?=some (ordW is))(a1:M[P.a]?=some la)(hk:(zAj [k] la).isSome=true)(hj:posI k is=some j)(lj:j < is.length)(hQ:Q (.dat .non,M)):zAn [picW P,.dat (.int k),.dat (.int (j:Int))] M=none/\EvP (zBT [picW P,.dat (.int k),.dat (.int (j:Int))] M) Q:=by
 have pf:decide ((j:Int) < 0\/(is.length:Int)<=(j:Int))=false:=decide_eq_false (by omega);have same:∀ {B:Dm} {Q:MB->Prop},Q (true,M)->EvP (evT GL2 B (.cmp .Eq (.var 2) (.idx (.fld (.var 0) "order") (.var 1))) ⟨[some (picW P),some (.dat (.int k)),some (.dat (.int (j:Int)))],M⟩) Q:=λq=>zHy (zGl (zAH rfl (zQ1 (zBh (zAH rfl ⟨_,_,_,_,_,rfl,by decide +kernel,hx,rfl,_,rfl,zAH rfl ⟨_,_,_,j,rfl,ho,zDh is,hj,_,_,zAN,zAN,zMp (zAo rfl ⟨_,rfl,by rw[decide_eq_true rfl];exact q⟩)⟩⟩)))))
 constructor
 .refine zRx ⟨rfl,by decide⟩ ?_;unfold zAu;refine zGU (zIX (zAH rfl ⟨_,_,rfl,fc3,zAE (zAH rfl (zAW (zNM hx a1 hk)))⟩)) (zBq (zDa (zAH rfl ⟨_,_,_,zAT,rfl,rfl,rfl,by decide +kernel,zAE (zAH rfl (zAW (zFC hx a1 hk λs' es=>?_)))⟩)));cases es;refine zGU (zFZ (zE3 hx ho pf ⟨(λz=>nomatch z),λ_=>rfl⟩)) (zA9 (zE3 hx ho pf ⟨(λz=>nomatch z),λ_=>zAe λs' es=>?_⟩));cases es;exact zGU (zFZ (same ⟨λ_=>rfl,(λz=>nomatch z)⟩)) (zA9 (same ⟨λ_=>zAC ⟨_,rfl,λs' es=>nomatch es⟩,(λz=>nomatch z)⟩))
 .refine zDL rfl (by decide) ?_;unfold zAu;show EvP (evSs' GL2 D16 _ ⟨[some (picW P),some (.dat (.int k)),some (.dat (.int (j:Int)))],M⟩) _;refine zAC (zBq (zDa (zAH rfl ⟨_,_,_,zAT,rfl,rfl,rfl,by decide +kernel,zAE (zAH rfl (zAW (zFC hx a1 hk (zAZ ?_))))⟩)));refine zAC (zA9 (zE3 hx ho pf ⟨(λz=>nomatch z),λ_=>zAe (zAZ ?_)⟩));exact zAC (zA9 (same ⟨λ_=>zAC ⟨_,rfl,zDb (zDb hQ)⟩,(λz=>nomatch z)⟩))
end
theorem zPs {is:List Int}(a:decide (k∈is)=!b)(h:Q (.bl b,.cl)):EvP (cmpD .NotIn (.int k) (.lst (is.map .int))) Q:=⟨_,by
 show (zDT (is.map D.int)).map (λl=>(D.bl (true != l.contains k),Kd.cl))=_;rw[zHX,Option.map_some,show (true != is.contains k)=b by rw[List.contains_eq_mem,a];cases b<;>rfl],h⟩
theorem zJ1 {is:List Int}:∀ (zs:List Int) (o:Option (D×Bool)),EvP (zGI (tg1 5) (evC J (.cons (.cmp .NotIn (.var 5) (.var 1)) .nil)) (evE J (.var 5)) (zs.map .int) [o0,some (.lst (is.map .int),false),o2,o3,o4,o]) λys=>∃ ns:List Int,ys=ns.map .int/\(∀ n∈ns,n∉is)/\ns.length<=zs.length
 | [],o=>⟨_,rfl,[],rfl,by simp,le_refl _⟩
 | z::zs,o=>by
  obtain⟨ys,e,ns,rfl,h1,h2⟩:=zJ1 (J:=J) (is:=is) (o0:=o0) (o2:=o2) (o3:=o3) (o4:=o4) zs (some (.int z,false));have key:∀ b,decide (z∈is)=!b->evC J (.cons (.cmp .NotIn (.var 5) (.var 1)) .nil) [o0,some (.lst (is.map .int),false),o2,o3,o4,some (.int z,false)]=some b:=λb hb=>by
   show asB (evE J (.cmp .NotIn (.var 5) (.var 1))) _=_;unfold asB;obtain⟨r,er,q⟩:EvP (evE J (.cmp .NotIn (.var 5) (.var 1)) [o0,some (.lst (is.map .int),false),o2,o3,o4,some (.int z,false)]) λr=>r=(.bl b,.cl):=zCU (zAm rfl (zAm rfl (zPs hb rfl)))
   rw[er,q]
  by_cases q:z∈is
  .refine ⟨_,?_,ns,rfl,h1,Nat.le_succ_of_le h2⟩;show (tg1 5 (D.int z) [o0,some (.lst (is.map .int),false),o2,o3,o4,o]).bind _=_;show ((evC J (.cons (.cmp .NotIn (.var 5) (.var 1)) .nil) [o0,some (.lst (is.map .int),false),o2,o3,o4,some (.int z,false)]).bind _)=_;rw[key false (decide_eq_true q)];exact e
  .refine ⟨_,?_,z::ns,rfl,λn hn=>?_,Nat.succ_le_succ h2⟩
   .show ((evC J (.cons (.cmp .NotIn (.var 5) (.var 1)) .nil) [o0,some (.lst (is.map .int),false),o2,o3,o4,some (.int z,false)]).bind _)=_;rw[key true (decide_eq_false q)];show (zGI (tg1 5) _ _ (zs.map .int) [o0,some (.lst (is.map .int),false),o2,o3,o4,some (.int z,false)]).bind _=_;rw[e]
    rfl
   .rcases mem_cons.mp hn with rfl | hn
    .exact q
    .exact h1 n hn
theorem zKJ {x:Int}(h:0 < n):∃ i:Nat,i < n/\x.fmod (n:Int)=(i:Int):=by
 have b:=x8 x (show (0:Int) < n by omega);have a:=Int.fmod_lt_of_pos x (show (0:Int) < n by omega);exact⟨(x.fmod (n:Int)).toNat,by omega,by omega⟩
theorem h47 {g:Nat}{is:List Int}(r:g<=6)(h:∀ k∈is,0<=k/\k < (g:Int))(p:∀ k,k∉is->Q (.int k,.cl)):EvP (F47 [.int y,.lst (is.map .int),.int (g:Int)]) Q:=by
 (walk_at "d");unfold b47;show EvP (evSs G47 _ [some (.int y,false),some (.lst (is.map .int),false),some (.int (g:Int),false),none,none]) _;refine zDM (zKb (zHc (zQE (zAm rfl ⟨_,rfl,by omega,?_⟩))));have m:rngL 0 (g:Int).toNat=((List.range g).map λi:Nat=>(i:Int)).map D.int:=by
  unfold rngL;rw[toNat_natCast,map_map];exact List.map_congr_left λi _=>by simp
 rw[m];refine⟨by simp;omega,?_⟩;obtain⟨t,e,a,rfl,j,l⟩:=zJ1 (J:=G47) (is:=is) (o0:=some (.int y,false)) (o2:=some (.int (g:Int),false)) (o3:=none) (o4:=none) ((List.range g).map λi:Nat=>(i:Int)) none;refine⟨_,e,true,rfl,?_⟩;show EvP (evSs G47 _ [some (.int y,false),some (.lst (is.map .int),false),some (.int (g:Int),false),some (.lst (a.map .int),true),none]) _;rw[List.length_map,length_range] at l;refine zDM (zNa (zA7 (zKO ?_)));(walk_at "w");refine zB1 (by decide) ?_;(walk_at "w");refine zSN (by decide) ?_;(walk_at "w");refine zB1 (by decide) ?_;(walk_at "w");have f:∀ k∈(-1 - y.fmod 3)::(g:Int)::((g:Int)+y.fmod (10^Int.toNat 29))::a,k∉is:=λk c z=>by
  have q:=x8 y (show (0:Int) < 3 by decide);have s:=x8 y (show (0:Int) < 10^Int.toNat 29 by decide);obtain⟨v,u⟩:=h k z;simp only[mem_cons] at c;rcases c with rfl | rfl | rfl | c
  .omega
  .omega
  .omega
  .exact j k c z
 refine zSO (by simp;omega) ⟨true,rfl,?_⟩;dsimp only;rw[show [D.int (-1 - y.fmod 3),D.int (g:Int),D.int ((g:Int)+y.fmod (10^Int.toNat 29))]++a.map D.int=((-1 - y.fmod 3)::(g:Int)::((g:Int)+y.fmod (10^Int.toNat 29))::a).map D.int from rfl];generalize hms:(-1 - y.fmod 3)::(g:Int)::((g:Int)+y.fmod (10^Int.toNat 29))::a=ms at f;have o:0 < ms.length:=by rw[<- hms];simp
 show EvP (evSs G47 _ [some (.int y,false),some (.lst (is.map .int),false),some (.int (g:Int),false),some (.lst (a.map .int),true),some (.lst (ms.map .int),true)]) _;(walk_at "w");refine zFT (zCL (by decide) (by decide)) ?_;(walk_at "w");refine zB1 (by rw[List.length_map];omega) ?_;rw[List.length_map];obtain⟨i,b,n⟩:=zKJ (x:=y.fdiv 5) o;rw[n];refine zFG (d:=.int ms[i]) (zCQ (by rw[getElem?_map,getElem?_eq_getElem b];rfl)) ?_;(walk_at "w");exact p _ (f _ (List.getElem_mem b))
theorem zSY (h:EvP (g s) λr=>sub r.1=some true/\∃ v,hb ⟨(List.replicate s.G.length none).set i (some (.dat (.exc r.1))),r.2⟩=some (.rt v)/\Q (.rt v)):EvP (tryM f g sub i hb s) Q:=by
 obtain⟨r,e1,e2,v,e3,q⟩:=h;refine⟨_,?_,q⟩;unfold tryM;rw[e1];dsimp only;rw[e2];dsimp only;rw[e3]
theorem zSZ (a:g s=none)(h:EvP (f s) Q):EvP (tryM f g sub i hb s) Q:=by
 obtain⟨o,e,q⟩:=h;refine⟨_,?_,q⟩;unfold tryM;rw[a];exact e
theorem hnd (M:Mem)(b:Bool):zB0 GL2 "CoverError" (cond b "NoLayer" "NoPlace")=some true/\zJw GL2 1 2 ["NoRatio","NoText","NoRow","NoName","NoCell"] "ValueError" "NoLayer" "NoPlace" "place" "layer" ⟨[none,some (.dat (.exc (cond b "NoLayer" "NoPlace"))),none],M⟩=some (.rt (.dat (.str (cond b "layer" "place")),M++[[.dat (.bl b),.dat (.bl (!b))]])):=by cases b<;>exact⟨by kernel_rfl,by kernel_rfl⟩
theorem zQP (h:EvP (evX GL2 D20 XE4 ty46 ⟨[some d,none,none],M⟩) λr=>r=(cond b ("NoLayer":Str) "NoPlace",M))(hQ:∀ U:Mem,Q (.dat (.str (cond b "layer" "place")),M++U)):EvP (FM46 [d] M) Q:=by
 refine zDL rfl (by decide) ?_;obtain⟨r,e,rfl⟩:=h;obtain⟨h1,h2⟩:=hnd M b;obtain⟨o,eo,q⟩:EvP (tryM (evSs' GL2 D20 ty46) (evX GL2 D20 XE4 ty46) (zB0 GL2 "CoverError") 1 (zJw GL2 1 2 ["NoRatio","NoText","NoRow","NoName","NoCell"] "ValueError" "NoLayer" "NoPlace" "place" "layer") ⟨[some d,none,none],M⟩) λo=>∃ U,o=.rt (.dat (.str (cond b "layer" "place")),M++U):=zSY ⟨_,e,h1,_,h2,_,rfl⟩
 obtain⟨U,rfl⟩:=q;refine⟨.rt (.dat (.str (cond b "layer" "place")),M++U),?_,hQ U⟩;show seqM (tryM _ _ _ _ _) _ ⟨[some d,none,none],M⟩=_;unfold seqM;rw[eo]
 rfl
theorem zSi (a:evX GL2 D20 XE4 ty46 ⟨[some d,none,none],M⟩=none)(h:EvP (evSs' GL2 D20 ty46 ⟨[some d,none,none],M⟩) λo=>o=.nx ⟨[some d,none,none],M⟩)(b:Q (.dat (.str ""),M)):EvP (FM46 [d] M) Q:=by
 refine zDL rfl (by decide) ?_;show EvP (seqM (tryM _ _ _ _ _) _ ⟨[some d,none,none],M⟩) _;refine zMz (zSZ a ?_);obtain⟨o,e,rfl⟩:=h;exact⟨_,e,_,rfl,_,rfl,b⟩
section
variable {w h:Nat}{M:Mem}{P:PP}{is:List Int}{c k:Int}{la:List W}
theorem st_t (d:atI l 1=some (.dat (.str a)))(c:cmpD .Eq (.str a) (.str b)=some (.bl v,.cl))(e:Q (v,M)):EvP (evT GL2 B (.cmp .Eq (.ix (.var 0) (.pur (.int 1))) (.pur (.str b))) ⟨[some (.tup l),none,none],M⟩) Q :=
 zHy (zGl (m_ix (zAH rfl (zAy rfl (zAd (zAo rfl (zC3 d (zAy rfl (zEB (zAo rfl ⟨_,_,zAN,zAN,_,c,zAo rfl ⟨_,rfl,e⟩⟩))))))))))
theorem no_t {p:Prop}:false=true->p:=λz=>nomatch z
theorem no_f {p:Prop}:true=false->p:=λz=>nomatch z
theorem m_at (hl:atI l i=some u)(hQ:Q (u,M)):EvP (evM GL2 B (.ix (.var 0) (.pur (.int i))) ⟨[some (.tup l),none,none],M⟩) Q:=m_ix (zAH rfl (zAy rfl (zAd (zAo rfl (zC3 hl hQ)))))
theorem rx_d (b:M[P.x]?=some (picC w h P c))(d:M[P.a]?=some la)(a:(zAj [k] la).isSome=false):EvP (evX GL2 D20 XE4 ty46 ⟨[some (.tup [picW P,.dat (.str "drop"),.dat (.int k)]),none,none],M⟩) λr=>r=(("NoLayer":Str),M):=by
 unfold ty46;exact zBG (zDl (st_t rfl (v:=true) (by kernel_rfl) ⟨λ_=>zBG (zET (m_at rfl ⟨_,_,rfl,fd4,zAE (m_at rfl (zAW (zSG b d a rfl)))⟩)),no_f⟩))
theorem rx_c (a:M[P.x]?=some (picC w h P c))(d:M[P.a]?=some la)(b:(zAj [k] la).isSome=false):EvP (evX GL2 D20 XE4 ty46 ⟨[some (.tup [picW P,.dat (.str "change"),.dat (.int k),L]),none,none],M⟩) λr=>r=(("NoLayer":Str),M):=by
 unfold ty46;exact zBG (zDl (st_t rfl (v:=false) (by kernel_rfl) ⟨no_t,λ_=>zBG (zDl (st_t rfl (v:=true) (by kernel_rfl) ⟨λ_=>zBG (zET (m_at rfl ⟨_,_,rfl,fg4,zAE (m_at rfl (zAE (m_at rfl (zAW (zMm a d b rfl)))))⟩)),no_f⟩))⟩))
theorem rx_l (hr:EvP (zAn [picW P,.dat (.int k),L] M) λz=>z=r):EvP (evX GL2 D20 XE4 ty46 ⟨[some (.tup [picW P,.dat (.str "lift"),.dat (.int k),L]),none,none],M⟩) λz=>z=r:=by
 unfold ty46;exact zBG (zDl (st_t rfl (v:=false) (by kernel_rfl) ⟨no_t,λ_=>zBG (zDl (st_t rfl (v:=false) (by kernel_rfl) ⟨no_t,λ_=>zBG (zET (m_at rfl ⟨_,_,rfl,fl4,zAE (m_at rfl (zAE (m_at rfl (zAW hr))))⟩))⟩))⟩))
theorem rs_l (d:zAn [picW P,.dat (.int k),L] M=none)(f:EvP (zBT [picW P,.dat (.int k),L] M) λr=>r=(.dat .non,M))(b:Q (.dat (.str ""),M)):EvP (FM46 [.tup [picW P,.dat (.str "lift"),.dat (.int k),L]] M) Q:=by
 have T1:∀ {Q:MB->Prop},Q (false,M)->EvP (evT GL2 D20 (.cmp .Eq (.ix (.var 0) (.pur (.int 1))) (.pur (.str "drop"))) ⟨[some (.tup [picW P,.dat (.str "lift"),.dat (.int k),L]),none,none],M⟩) Q:=st_t rfl (by kernel_rfl);have T2:∀ {Q:MB->Prop},Q (false,M)->EvP (evT GL2 D20 (.cmp .Eq (.ix (.var 0) (.pur (.int 1))) (.pur (.str "change"))) ⟨[some (.tup [picW P,.dat (.str "lift"),.dat (.int k),L]),none,none],M⟩) Q:=st_t rfl (by kernel_rfl);obtain⟨r,e,rfl⟩:=f;have a:∀ {Q:OutM->Prop},Q (.nx ⟨[some (.tup [picW P,.dat (.str "lift"),.dat (.int k),L]),none,none],M⟩)->EvP (evS' GL2 D20 (.drop (.mth [("Picture",17)] "lift" (.ix (.var 0) (.pur (.int 0))) (.cons (.ix (.var 0) (.pur (.int 2))) (.cons (.ix (.var 0) (.pur (.int 3))) .nil)))) ⟨[some (.tup [picW P,.dat (.str "lift"),.dat (.int k),L]),none,none],M⟩) Q:=λq=>zBq (zDa (m_at rfl ⟨_,_,_,zBT,rfl,rfl,rfl,by decide +kernel,zAE (m_at rfl (zAE (m_at rfl (zAW ⟨_,e,q⟩))))⟩))
 have c:evX GL2 D20 XE4 (.drop (.mth [("Picture",17)] "lift" (.ix (.var 0) (.pur (.int 0))) (.cons (.ix (.var 0) (.pur (.int 2))) (.cons (.ix (.var 0) (.pur (.int 3))) .nil)))) ⟨[some (.tup [picW P,.dat (.str "lift"),.dat (.int k),L]),none,none],M⟩=none:=zIX (m_at rfl ⟨_,_,rfl,fl4,zAE (m_at rfl (zAE (m_at rfl (zAW d))))⟩);refine zSi ?_ ?_ b
 .unfold ty46;exact zGU (zFZ (T1 ⟨no_t,λ_=>zGU (zFZ (T2 ⟨no_t,λ_=>zGU c (a λ_ _=>rfl)⟩)) (zA9 (T2 ⟨no_t,λ_=>zAC (a (zAZ (zAe λ_ _=>rfl)))⟩))⟩)) (zA9 (T1 ⟨no_t,λ_=>zAC (zA9 (T2 ⟨no_t,λ_=>zAC (a (zAZ (zAe (zAZ (zAe λ_ _=>rfl)))))⟩))⟩))
 .unfold ty46;exact zAC (zA9 (T1 ⟨no_t,λ_=>zAC (zA9 (T2 ⟨no_t,λ_=>zAC (a (zAZ (zAe (zAZ (zAe (zAZ (zAe rfl)))))))⟩))⟩))
end
structure Ph2 (w h d0:Nat)(M:Mem)(P:PP)(is:List Int)(c:Int):Prop where
 hx:M[P.x]?=some (picC w h P c)
 ho:M[P.o]?=some (ordW is)
 ha:∃ la,M[P.a]?=some la/\∀ k,(zAj [k] la).isSome=true<->k∈is
 hm:M[P.m]?=some []
 hd:M[d0]?=some (ordW is)
 ne:P.x≠P.o/\P.x≠P.a/\P.x≠d0
theorem Ph2.app (p:Ph2 w h d0 M P is c):Ph2 w h d0 (M++U) P is c:=let ⟨la,a1,a2⟩:=p.ha;⟨zBD p.hx,zBD p.ho,⟨la,zBD a1,a2⟩,zBD p.hm,zBD p.hd,p.ne⟩
section
variable {w h d0:Nat}{M:Mem}{P:PP}{is:List Int}{c k:Int}{L:W}{Q:MR->Prop}
theorem Ph2.no (p:Ph2 w h d0 M P is c)(a:k∉is):∃ la,M[P.a]?=some la/\(zAj [k] la).isSome=false:=by
 obtain⟨la,d,b⟩:=p.ha;refine⟨la,d,?_⟩;cases e:(zAj [k] la).isSome
 .rfl
 .exact absurd ((b k).mp e) a
theorem d_no (p:Ph2 w h d0 M P is c)(f:k∉is)(g:d=.tup [picW P,.dat (.str "drop"),.dat (.int k)]\/d=.tup [picW P,.dat (.str "change"),.dat (.int k),L]\/d=.tup [picW P,.dat (.str "lift"),.dat (.int k),.dat (.int q)])(j:∀ U:Mem,Q (.dat (.str "layer"),M++U)):EvP (FM46 [d] M) Q:=by
 obtain⟨l,e,a⟩:=p.no f;refine zQP (b:=true) ?_ j;rcases g with rfl | rfl | rfl
 .exact rx_d p.hx e a
 .exact rx_c p.hx e a
 .exact rx_l ((by have i:=p.hx;refine zKF ⟨rfl,by decide⟩ ?_;unfold zAu;exact zBG (zET (zAH rfl ⟨_,_,rfl,fc3,zAE (zAH rfl (zAW (zJc i e a rfl)))⟩))))
theorem zQ0 (h:EvP (evM J B a s) λr=>r.1=.dat (.bl true)/\Q r):EvP (evM J B (.or2 a b) s) Q:=by
 obtain⟨⟨r,m⟩,e,rfl,q⟩:=h;refine⟨_,?_,q⟩;show or2M (evM J B a) (evM J B b) s=_;unfold or2M;rw[e]
 rfl
theorem zI3:∀ {is:List Int} {j:Nat},posI k is=some j->j < is.length
 | [],j,e=>by cases e
 | x::r,j,e=>by
  unfold posI at e;by_cases q:x=k
  .rw [if_pos q] at e;cases e;exact Nat.zero_lt_succ _
  .rw [if_neg q] at e;obtain⟨i,e1,rfl⟩:=yj.mp e;exact Nat.succ_lt_succ (zI3 e1)
theorem zNu {x q:Int}{pl g:Nat}{v:Option W}(p:Ph2 w h d0 M P is c)(D:x.fmod 3=0->k∉is)(J:q < 0\/(is.length:Int)<=q)(hQ:∀ U:Mem,Q (.dat (.bl true),M++U)):EvP (evSs' GL2 D21 (.cons (.ife (.pur (.cmp .Eq (.bin .Mod (.var 1) (.int 3)) (.int 0))) (.cons (.set 8 (.lst (.cons (.tup (.cons (.var 0) (.cons (.pur (.str "drop")) (.cons (.var 5) .nil)))) (.cons (.tup (.cons (.var 0) (.cons (.pur (.str "change")) (.cons (.var 5) (.cons (.var 4) .nil))))) (.cons (.tup (.cons (.var 0) (.cons (.pur (.str "lift")) (.cons (.var 5) (.cons (.var 7) .nil))))) .nil))))) (.cons (.ret (.or2 (.cmp .Eq (.call 21 "_law_refusal" (.cons (.ix (.var 8) (.pur (.bin .Mod (.bin .FloorDiv (.var 1) (.int 3)) (.int 3)))) .nil)) (.pur (.str "layer"))) (.pur (.cmp .In (.var 5) (.var 2))))) .nil)) .nil) (.cons (.ife (.pur (.cmp .NotIn (.var 5) (.var 2))) (.cons (.ret (.cmp .Eq (.call 21 "_law_refusal" (.cons (.tup (.cons (.var 0) (.cons (.pur (.str "lift")) (.cons (.var 5) (.cons (.var 7) .nil))))) .nil)) (.pur (.str "layer")))) .nil) .nil) (.cons (.ife (.pur (.cmp .Eq (.bin .Mod (.var 1) (.int 3)) (.int 1))) (.cons (.ret (.cmp .Eq (.call 21 "_law_refusal" (.cons (.tup (.cons (.var 0) (.cons (.pur (.str "lift")) (.cons (.var 5) (.cons (.var 7) .nil))))) .nil)) (.pur (.str "place")))) .nil) .nil) (.cons (.ret (.cmp .Eq (.call 21 "_law_refusal" (.cons (.tup (.cons (.var 0) (.cons (.pur (.str "lift")) (.cons (.var 5) (.cons (.idx (.var 2) (.var 5)) .nil))))) .nil)) (.pur (.str "")))) .nil))))
  ⟨[some (picW P),some (.dat (.int x)),some (.loc d0),some (.dat (.int (g:Int))),some L,some (.dat (.int k)),some (.loc pl),some (.dat (.int q)),v],M⟩) (KFM Q):=by
 have dr:drW M (.loc d0)=some (.lst (is.map .int)):=zB5 p.hd;have l:∀ (b:Str) (d:W) (m:Mem) {s:Mst} {es:ME},(cmpD .Eq (.str b) (.str b)=some (.bl true,.cl))->(EvP (evMs GL2 D21 es s) λws=>ws=([d],m)/\∀ {Q:MR->Prop},(∀ U:Mem,Q (.dat (.str b),m++U))->EvP (FM46 [d] m) Q)->∀ {Q:MR->Prop},(∀ U:Mem,Q (.dat (.bl true),m++U))->EvP (evM GL2 D21 (.cmp .Eq (.call 21 "_law_refusal" es) (.pur (.str b))) s) Q:=λb d m s es K G Q hQ=>by
  obtain⟨ws,e,rfl,S⟩:=G;refine zGl (zFx (F:=FM46) rfl ⟨_,e,?_⟩);refine S λU=>zAy rfl (zEB (zAo rfl ⟨_,_,zAN,zAN,⟨_,K,(zAo rfl (hQ U))⟩⟩))
 refine zAC (zA9 (zEt rfl (zCU (zA7 (zAm (zAL rfl zAN) (zAd (zB1 (by decide) (zAd (zMp ⟨_,rfl,λz=>?_,λz=>zAe (zAZ ?_)⟩)))))))))
 .have f:=D (of_decide_eq_true (show decide _=true from z));refine zAC (zBW (zFw (zAE (zJX (zAE (zAH rfl (zAE (zAy rfl (zEB (zAo rfl (zAE (zAH rfl (zAW ⟨by show 3<=10000;decide,?_⟩)))))))))))));refine zAE (zJX (zAE (zAH rfl (zAE (zAy rfl (zEB (zAo rfl (zAE (zAH rfl (zAE (zAH rfl (zAW ⟨by show 4<=10000;decide,?_⟩))))))))))));refine zAE (zJX (zAE (zAH rfl (zAE (zAy rfl (zEB (zAo rfl (zAE (zAH rfl (zAE (zAH rfl (zAW ⟨by show 4<=10000;decide,zAW ⟨by show 3<=10000;decide,zAZ ?_⟩⟩))))))))))));(walk_at "s");obtain⟨i,V,O⟩:=zKJ (x:=x.fdiv 3) (n:=3) (by decide);have:∃ d,atI [W.tup [picW P,.dat (.str "drop"),.dat (.int k)],.tup [picW P,.dat (.str "change"),.dat (.int k),L],.tup [picW P,.dat (.str "lift"),.dat (.int k),.dat (.int q)]] (i:Int)=some d/\(d=.tup [picW P,.dat (.str "drop"),.dat (.int k)]\/d=.tup [picW P,.dat (.str "change"),.dat (.int k),L]\/d=.tup [picW P,.dat (.str "lift"),.dat (.int k),.dat (.int q)]):=by
   have:i=0\/i=1\/i=2:=by omega
   rcases this with rfl | rfl | rfl
   .exact ⟨_,rfl,.inl rfl⟩
   .exact ⟨_,rfl,.inr (.inl rfl)⟩
   .exact ⟨_,rfl,.inr (.inr rfl)⟩
  obtain⟨d,A,E⟩:=this;generalize [W.tup [picW P,.dat (.str "drop"),.dat (.int k)],.tup [picW P,.dat (.str "change"),.dat (.int k),L],.tup [picW P,.dat (.str "lift"),.dat (.int k),.dat (.int q)]]=ds at A ⊢;refine zAC (zCp (zQ0 (l "layer" d (M++[ds]) (by kernel_rfl) (zAE (m_ix (zAH rfl (zAy rfl (zA7 (zA7 (zAm (zAL rfl zAN) (zAd (zFT (zCL (by decide) (by decide)) (zAd (zB1 (by decide) (zAo rfl ?_)))))))))))) λU=>⟨rfl,zDb ?_⟩)))
  .rw [show (x.fdiv 3).fmod 3=(i:Int) from O];exact zEd zBR A (zAW ⟨rfl,λhQ=>d_no p.app f E hQ⟩)
  .rw [qJ];exact hQ _
 have o:∀ {e:ME} {u:W} {Q:MA->Prop},(∀ {Q:MR->Prop},Q (u,M)->EvP (evM GL2 D21 e ⟨[some (picW P),some (.dat (.int x)),some (.loc d0),some (.dat (.int (g:Int))),some L,some (.dat (.int k)),some (.loc pl),some (.dat (.int q)),v],M⟩) Q)->Q ([.tup [picW P,.dat (.str "lift"),.dat (.int k),u]],M)->EvP (evMs GL2 D21 (.cons (.tup (.cons (.var 0) (.cons (.pur (.str "lift")) (.cons (.var 5) (.cons e .nil))))) .nil) ⟨[some (picW P),some (.dat (.int x)),some (.loc d0),some (.dat (.int (g:Int))),some L,some (.dat (.int k)),some (.loc pl),some (.dat (.int q)),v],M⟩) Q:=λhe q=>by
  refine zAE (zJX (zAE (zAH rfl (zAE (zAy rfl (zEB (zAo rfl ?_)))))));refine zAE (zAH rfl (zAE (he (zAW ⟨by show 4<=10000;decide,zAW q⟩))))
 by_cases f:k∈is
 .obtain ⟨T,y,H⟩:=p.ha;have B:=(H k).mpr f;refine zAC (zA9 (zEt rfl (zCU (zAm (zAL rfl zAN) (zAm (zAL rfl dr) (zPs (b:=false) (by rw[decide_eq_true f];rfl) ⟨_,rfl,no_t,λ_=>zAe (zAZ ?_)⟩))))));refine zAC (zA9 (zEt rfl (zCU (zA7 (zAm (zAL rfl zAN) (zAd (zB1 (by decide) (zAd (zMp ⟨_,rfl,λz=>?_,λz=>zAe (zAZ ?_)⟩)))))))))
  .exact zAC (zCp (l "place" _ M (by kernel_rfl) (o (λq=>zAH rfl q) ⟨rfl,λhQ=>zQP (b:=false) (rx_l (zQ7 p.hx p.ho y B J rfl)) hQ⟩) λU=>zDb (hQ U)))
  .obtain ⟨j,t,_⟩:=zE1 f;have I:j < is.length:=zI3 t;obtain⟨N,C⟩:=zQ6 (Q:=λr=>r=(.dat .non,M)) p.hx p.ho y B t I rfl;exact zAC (zCp (l "" _ M (by kernel_rfl) (o (λq=>zQ1 (zAH rfl ⟨_,rfl,zAH rfl ⟨_,_,_,j,rfl,p.hd,zDh is,t,q⟩⟩)) ⟨rfl,λhQ=>rs_l N C (by simpa using hQ [])⟩) λU=>zDb (hQ U)))
 .refine zAC (zA9 (zEt rfl (zCU (zAm (zAL rfl zAN) (zAm (zAL rfl dr) (zPs (b:=true) (by rw[decide_eq_false f];rfl) ⟨_,rfl,λ_=>?_,no_f⟩))))));exact zAC (zCp (l "layer" _ M (by kernel_rfl) (o (λq=>zAH rfl q) ⟨rfl,λhQ=>d_no (L:=L) p f (.inr (.inr rfl)) hQ⟩) λU=>zDb (hQ U)))
theorem zLF {x:Int}{g:Nat}(p:Ph2 w h d0 M P is c)(hg:g<=6)(hi:∀ k∈is,0<=k/\k < (g:Int))(hQ:∀ U:Mem,Q (.dat (.bl true),M++U)):EvP (FM48 [picW P,.dat (.int x),.loc d0,.dat (.int (g:Int)),L] M) Q:=by
 refine zDL rfl (by decide) ?_;unfold mb48;show EvP (evSs' GL2 D21 _ ⟨[some (picW P),some (.dat (.int x)),some (.loc d0),some (.dat (.int (g:Int))),some L,none,none,none,none],M⟩) _;have dr:drW M (.loc d0)=some (.lst (is.map .int)):=zB5 p.hd;refine zAC (zBW (zAy rfl (zBv rfl (zAx (zA7 (zAm (zAL rfl zAN) (zAd (zFT (zCL (by decide) (by decide)) (n_cl (zAx (zAm (zAL rfl dr) (n_cl (zAx (zAm (zAL rfl zAN) (n_cl (zCV ?_))))))))))))))));refine h47 hg hi λk hk=>n_cl (zAo rfl (zAZ ?_))
 (walk_at "s");have TT:∀ {v:Bool} {Q:MB->Prop},decide (0 < x.fmod 3/\0 < is.length)=v->Q (v,M)->EvP (evT GL2 D21 (.pur (.andl (.cons (.cmp .Gt (.bin .Mod (.var 1) (.int 3)) (.int 0)) (.cons (.cmp .Gt (.len (.var 2)) (.int 0)) .nil)))) ⟨[some (picW P),some (.dat (.int x)),some (.loc d0),some (.dat (.int (g:Int))),some L,some (.dat (.int k)),none,none,none],M⟩) Q:=λ{v Q} hv q=>by
  refine zEt rfl (zKP (zKQ ?_));refine zCU (zA7 (zAm (zAL rfl zAN) (zAd (zB1 (by decide) (zAd (c_gt (x_bl ?_)))))));refine zGK (λz=>?_) λz=>⟨_,rfl,?_⟩
  .refine zKR (zCU (zC5 (zAm (zAL rfl dr) (zF1 (zAd (c_gt ⟨_,rfl,?_⟩))))));rw[List.length_map,show decide ((0:Int) < (is.length:Int))=v by rw[<- hv];simp[z]];exact q
  .rw [show false=v by rw[<- hv];simp[z]];exact q
 obtain⟨k',hk',o,eo,ro⟩:∃ k',(x.fmod 3=0->k'∉is)/\EvP (evS' GL2 D21 (.ife (.pur (.andl (.cons (.cmp .Gt (.bin .Mod (.var 1) (.int 3)) (.int 0)) (.cons (.cmp .Gt (.len (.var 2)) (.int 0)) .nil)))) (.cons (.set 5 (.ix (.var 2) (.pur (.bin .Mod (.bin .FloorDiv (.var 1) (.int 12)) (.len (.var 2)))))) .nil) .nil) ⟨[some (picW P),some (.dat (.int x)),some (.loc d0),some (.dat (.int (g:Int))),some L,some (.dat (.int k)),none,none,none],M⟩) λo=>o=.nx ⟨[some (picW P),some (.dat (.int x)),some (.loc d0),some (.dat (.int (g:Int))),some L,some (.dat (.int k')),none,none,none],M⟩:=by
  by_cases h1:0 < x.fmod 3/\0 < is.length
  .obtain ⟨i,hi2,ei⟩:=zKJ (x:=x.fdiv 12) h1.2;refine⟨is[i],λz=>absurd z (by omega),zA9 (TT (decide_eq_true h1) ⟨λ_=>?_,no_f⟩)⟩;refine zAC (zBW (m_ix (zAH rfl (zAy rfl (zA7 (zA7 ?_))))));refine zAm (zAL rfl zAN) (zAd (zFT (zCL (by decide) (by decide)) (zC5 (zAm (zAL rfl dr) (zF1 (zB1 ?_ (zAo rfl ?_)))))))
   .rw [List.length_map];omega
   rw[List.length_map,ei];exact zEd (w:=.dat (.int is[i])) p.hd (zCQ (by rw[getElem?_map,getElem?_map,getElem?_eq_getElem hi2];rfl)) (zAZ (zAe rfl))
  .exact ⟨k,λ_=>hk,zA9 (TT (decide_eq_false h1) ⟨no_t,λ_=>zAe rfl⟩)⟩
 subst ro;refine zAC ⟨_,eo,zAZ ?_⟩;refine zAC (zBW (zFw (zAE (zAy rfl ?_))));refine zA7 (zNZ (zAd ⟨_,rfl,zA7 (zAm (zAL rfl zAN) (zAd (zB1 (by decide) (zSM (zAo rfl (zAE (zAy rfl ?_)))))))⟩));refine zC5 (zAm (zAL rfl dr) (zF1 (zAo rfl (zAE (zAy rfl ?_)))));refine zA7 (zC5 (zAm (zAL rfl dr) (zF1 (zA7 (zAm (zAL rfl zAN) (zA7 (zAd (zAd ?_))))))));refine zSN (by decide) (zB1 (by decide) (zMs (zAo rfl (zAW ⟨by show 3<=10000;decide,zAZ ?_⟩))));(walk_at "s");rw[List.length_map];obtain⟨i,hi2,ei⟩:=zKJ (x:=x.fdiv 36) (n:=3) (by decide);obtain⟨q,eq,hq⟩:∃ q,atI [W.dat (.int (-1 - x.fmod 4)),.dat (.int (is.length:Int)),.dat (.int ((is.length:Int)+x.fmod (10^Int.toNat 29)))] (i:Int)=some (.dat (.int q))/\(q < 0\/(is.length:Int)<=q):=by
  have d1:=x8 x (show (0:Int) < 4 by decide);have d2:=x8 x (show (0:Int) < 10^Int.toNat 29 by decide);have:i=0\/i=1\/i=2:=by omega
  rcases this with rfl | rfl | rfl
  .exact ⟨_,rfl,by omega⟩
  .exact ⟨_,rfl,by omega⟩
  .exact ⟨_,rfl,by omega⟩
 generalize [W.dat (.int (-1 - x.fmod 4)),.dat (.int (is.length:Int)),.dat (.int ((is.length:Int)+x.fmod (10^Int.toNat 29)))]=ds at eq ⊢;refine zAC (zBW (m_ix (zAH rfl (zAy rfl (zA7 (zA7 (zAm (zAL rfl zAN) (zAd (zFT (zCL (by decide) (by decide)) (zAd (zB1 (by decide) (zAo rfl ?_))))))))))));rw[show (x.fdiv 36).fmod 3=(i:Int) from ei];refine zEd zBR eq (zAZ ?_);(walk_at "s");exact zNu p.app hk' hq λU=>by rw[qJ];exact hQ _
end
abbrev PK (h:Nat):PP:=⟨9+h,4,5,6,7,8+h⟩
noncomputable def tl (j n:Nat):List Int:=(List.range' j n).map λi:Nat=>(i:Int)
theorem zNt (j n:Nat):tl j (n+1)=(j:Int)::tl (j+1) n:=by unfold tl;rw[List.range'_succ];rfl
abbrev m4:Mem:=[boxP.map W.dat,[.loc 0],boxP.map W.dat,[.loc 2]]
theorem zR0:zDP [.loc 1,.dat inkD,.dat .non] [boxP.map W.dat,[.loc 0]]=some (zKL 3,m4):=by kernel_rfl
noncomputable def m0 (w h:Nat):Mem:=match zBp [.dat (.int (w:Int)),.dat (.int (h:Int)),.dat .non] m4 with
 | some r=>r.2
 | none=>[]
theorem zSm (f:Fl w h):zBp [.dat (.int (w:Int)),.dat (.int (h:Int)),.dat .non] m4=some (picW (PK h),m0 w h):=by
 revert f
 apply Fl.ind<;>kernel_rfl
noncomputable def zJi (p:W->Bool):List W->Option (List Int)
 | []=>some []
 | .tup [.dat (.int k),u]::r=>if p u=true then (zJi p r).map λl=>k::l else none
 | _=>none
theorem zFE :∀ {ws:List W} {is:List Int},zJi p ws=some is->wfD ws/\ws.length=is.length/\∀ k,((zAj [k] ws).isSome=true<->k∈is)/\∀ u,zAj [k] ws=some u->p u=true
 | [],is,e=>by
  cases e;exact⟨λe he=>absurd he (by simp),rfl,λk=>⟨by simp[zAj],λu z=>nomatch z⟩⟩
 | w::ws,is,e=>by
  unfold zJi at e;split at e
  .rename_i h;cases h
  .rename_i k0 u r h;cases h;by_cases q:p u=true
   .rw [if_pos q] at e;obtain⟨l,e1,rfl⟩:=yj.mp e;obtain⟨h1,h2,h3⟩:=zFE e1;refine⟨λe he=>?_,by rw[x9,h2,x9],λk=>?_⟩
    .rcases mem_cons.mp he with rfl | he
     .exact ⟨_,_,_,rfl,rfl⟩
     .exact h1 e he
    .have ed:zAj [k] (.tup [.dat (.int k0),u]::ws)=if k0=k then some u else zAj [k] ws:=by
      show (if some [k0]=some [k] then some u else zAj [k] ws)=_;by_cases z:k0=k
      .rw [if_pos z,if_pos (by rw[z])]
      .rw [if_neg z,if_neg (λy=>z (by simpa using y))]
     rw[ed];by_cases z:k0=k
     .rw [if_pos z];exact⟨by simp[z],λv hv=>by cases hv;exact q⟩
     .rw [if_neg z];exact⟨(h3 k).1.trans (by simp[Ne.symm z]),(h3 k).2⟩
   .rw [if_neg q] at e;cases e
  .cases e
noncomputable def eqA {A:Type}(f:A->A->Bool):List A->List A->Bool
 | [],[]=>true
 | a::l,b::m=>f a b&&eqA f l m
 | _,_=>false
theorem eqB {A:Type}{f:A->A->Bool}(H:∀ a b,f a b=true->a=b):∀ {l m:List A},eqA f l m=true->l=m
 | [],[],_=>rfl
 | a::l,b::m,h=>by
  unfold eqA at h;rw[yx] at h;rw[H _ _ h.1,eqB H h.2]
 | [],_::_,h=>nomatch h
 | _::_,[],h=>nomatch h
noncomputable def eqd (d e:D):Bool:=match d with
 | .int i=>(match e with
  | .int j=>decide (i=j)
  | _=>false)
 | .bl i=>(match e with
  | .bl j=>decide (i=j)
  | _=>false)
 | .non=>(match e with
  | .non=>true
  | _=>false)
 | _=>false
theorem eqD' (d e:D)(h:eqd d e=true):d=e:=by
 unfold eqd at h;split at h
 .split at h
  .rw [of_decide_eq_true h]
  .cases h
 .split at h
  .rw [of_decide_eq_true h]
  .cases h
 .split at h
  .rfl
  .cases h
 .cases h
noncomputable def eqt (f:D->D->Bool)(d e:D):Bool:=match d with
 | .tup l=>(match e with
  | .tup m=>eqA f l m
  | _=>false)
 | _=>f d e
theorem eqT' {f:D->D->Bool}(H:∀ a b,f a b=true->a=b)(d e:D)(h:eqt f d e=true):d=e:=by
 unfold eqt at h;split at h
 .split at h
  .rw [eqB H h]
  .cases h
 .exact H _ _ h
noncomputable def eqw (d e:W):Bool:=match d with
 | .dat i=>(match e with
  | .dat j=>eqt (eqt eqd) i j
  | _=>false)
 | .loc i=>(match e with
  | .loc j=>decide (i=j)
  | _=>false)
 | .di s i=>(match e with
  | .di t j=>decide (s=t/\i=j)
  | _=>false)
 | _=>false
theorem eqW' (d e:W)(h:eqw d e=true):d=e:=by
 unfold eqw at h;split at h
 .split at h
  .rw [eqT' (eqT' eqD') _ _ h]
  .cases h
 .split at h
  .rw [of_decide_eq_true h]
  .cases h
 .split at h
  .obtain ⟨rfl,rfl⟩:=of_decide_eq_true h
   rfl
  .cases h
 .cases h
noncomputable def equ (f:W->W->Bool)(d e:W):Bool:=match d with
 | .tup l=>(match e with
  | .tup m=>eqA f l m
  | _=>false)
 | _=>f d e
theorem eqU' {f:W->W->Bool}(H:∀ a b,f a b=true->a=b)(d e:W)(h:equ f d e=true):d=e:=by
 unfold equ at h;split at h
 .split at h
  .rw [eqB H h]
  .cases h
 .exact H _ _ h
noncomputable def eqo (o:Option (List W))(l:List W):Bool:=match o with
 | some x=>eqA (equ (equ eqw)) x l
 | none=>false
theorem eqO' {o:Option (List W)}{l:List W}(h:eqo o l=true):o=some l:=by
 unfold eqo at h;split at h
 .rw [eqB (eqU' (eqU' eqW')) h]
 .cases h
noncomputable def eqR (fs:List W)(bs:List Bool):Bool:=eqA eqw fs ((bs.map fmD).map .dat)
theorem zNc {fs:List W}{bs:List Bool}(h:eqR fs bs=true):fs=(bs.map fmD).map .dat:=eqB eqW' h
noncomputable def zLL (M:Mem)(x w:Nat):List W->Option (List Nat)
 | []=>some []
 | .loc r::rs=>(match M[r]? with
  | some fs=>if x < r/\eqR fs (rowB w)=true then (zLL M x w rs).map λl=>r::l else none
  | none=>none)
 | _=>none
theorem zHC :∀ {rs:List W} {ns:List Nat},zLL M x w rs=some ns->rs=ns.map .loc/\∀ r∈ns,x < r/\M[r]?=some (((rowB w).map fmD).map .dat)
 | [],ns,e=>by cases e;exact⟨rfl,by simp⟩
 | w0::rs,ns,e=>by
  unfold zLL at e;split at e
  .rename_i h;cases h
  .rename_i r rs' h;cases h;split at e
   .rename_i fs ef;by_cases q:x < r/\eqR fs (rowB w)=true
    .rw [if_pos q] at e;obtain⟨l,e1,rfl⟩:=yj.mp e;obtain⟨rfl,h2⟩:=zHC e1;refine⟨rfl,λr' hr=>?_⟩;rcases mem_cons.mp hr with rfl | hr
     .exact ⟨q.1,by rw[ef,zNc q.2]⟩
     .exact h2 r' hr
    .rw [if_neg q] at e;cases e
   .cases e
  .cases e
noncomputable def tabK (M:Mem)(x w h:Nat):W->Bool
 | .loc t=>(match (M[t]?).bind (zLL M x w) with
  | some ns=>decide (x < t/\ns.length=h)
  | none=>false)
 | _=>false
theorem zNv (e:tabK M x w h u=true):∃ t,u=.loc t/\zGQ w h (λy=>4<=y/\y<=x) M t:=by
 unfold tabK at e;split at e
 .rename_i t;split at e
  .rename_i ns en;obtain⟨rs,e1,e2⟩:=bind_some en;obtain⟨rfl,h2⟩:=zHC e2;obtain⟨h3,h4⟩:=of_decide_eq_true e;refine⟨t,rfl,ns.map λr=>(r,(rowB w).map fmD),⟨⟨by rw[e1,map_map];rfl,λp hp=>?_⟩,λ_ _=>zero_le _,zero_le _,?_⟩,λz=>by omega,λp hp=>?_⟩
   .obtain ⟨r,hr,rfl⟩:=mem_map.mp hp;exact(h2 r hr).2
   .unfold tabB;rw[map_map,map_map];apply List.ext_getElem
    .simp [h4]
    .simp
   .obtain ⟨r,hr,rfl⟩:=mem_map.mp hp;have:=(h2 r hr).1;intro z;have:r<=x:=z.2;omega
  .cases e
 .cases e
theorem zQz (f:Fl w h):mkW w h=(psB w h).map λp=>.tup [zEN p,.dat (.bl true)]:=by
 revert f
 apply Fl.ind<;>kernel_rfl
noncomputable def eqO {O:Type}[DecidableEq O](o:Option O)(a:O):Bool:=match o with
 | some x=>decide (x=a)
 | none=>false
theorem zEg {O:Type}[DecidableEq O]{o:Option O}{a:O}(h:eqO o a=true):o=some a:=by
 unfold eqO at h;split at h
 .rw [of_decide_eq_true h]
 .cases h
noncomputable def picB (w h j:Nat)(M:Mem):Bool:=eqo M[9+h]? [.dat (.int w),.dat (.int h),.dat .non,.loc 4,.di false 5,.di false 6,.dat (.int j),.di true 7,.loc (8+h)]&&eqo M[4]? (ordW (tl 0 j))&&eqO ((M[5]?).bind (zJi λ_=>true)) (tl 0 j)&&eqO ((M[6]?).bind (zJi (tabK M (9+h) w h))) (tl 0 j)&&eqo M[7]? (if j=0 then [] else (psB w h).map λp=>.tup [zEN p,.dat (.bl true)])&&eqo M[8+h]? (news 8 h)&&(List.range h).all λi=>eqO ((M[8+i]?).map List.length) w
theorem zLG (j:Nat):(tl 0 j).Nodup/\(tl 0 j).length=j/\∀ k∈tl 0 j,k < (j:Int):=by
 unfold tl;refine⟨List.Pairwise.map _ (λa b (z:a≠b) (y:(a:Int)=b)=>z (by omega)) List.nodup_range',by simp,λk c=>?_⟩;obtain⟨i,d,rfl⟩:=mem_map.mp c;have:=List.mem_range'_1.mp d;omega
theorem zQY (f:Fl w h)(e:picB w h j M=true):zCo (λy=>4<=y/\y<=9+h) w h j M (PK h) (tl 0 j) (j:Int):=by
 unfold picB at e;simp only[yx] at e;obtain⟨⟨⟨⟨⟨⟨e1,e2⟩,e3⟩,e4⟩,e5⟩,e6⟩,e7⟩:=e;obtain⟨la,a1,a2⟩:=bind_some (zEg e3);obtain⟨lb,b1,b2⟩:=bind_some (zEg e4);obtain⟨t1,t2,t3⟩:=zLG j;obtain⟨a3,a4,a5⟩:=zFE a2;obtain⟨b3,b4,b5⟩:=zFE b2;refine⟨⟨by show 4 < 5;decide,by show 5 < 6;decide,by show 6 < 7;decide,by show 7 < 8+h;omega,by show 8+h < 9+h;omega⟩,by show 8+h=7+1+h;omega,λy a b=>⟨a,b⟩,eqO' e1,eqO' e2,⟨la,a1,a3,by omega,λk=>(a5 k).1⟩,⟨lb,b1,b3,by omega,λk hk=>?_⟩,⟨_,eqO' e5,?_⟩,eqO' e6,λi hi=>?_,t1,by omega,t3⟩
 .obtain ⟨u,hu⟩:=Option.isSome_iff_exists.mp ((b5 k).1.mpr hk);obtain⟨t,rfl,ht⟩:=zNv ((b5 k).2 u hu);exact⟨t,hu,ht⟩
 .by_cases z:j=0
  .exact .inl (if_pos z)
  .exact .inr ((if_neg z).trans (zQz f).symm)
 .have:=zEg (all_eq_true.mp e7 i (mem_range.mpr hi));obtain⟨r,r1,r2⟩:=yj.mp this;exact⟨r,r1,r2⟩
def zDN (w h:Nat):Nat->Nat->Mem->Bool
 | 0,j,M=>picB w h j M
 | n+1,j,M=>picB w h j M&&(match zBa [picW (PK h),zKL 3] M with
  | some r=>zDN w h n (j+1) r.2
  | none=>false)
theorem zKq (e:zDN w h n j M=true):picB w h j M=true:=by
 cases n with
 | zero=>exact e
 | succ n=>exact(Bool.and_eq_true_iff.mp e).1
theorem zKr (e:zDN w h (n+1) j M=true):EvP (zBa [picW (PK h),zKL 3] M) λr=>zDN w h n (j+1) r.2=true:=by
 have q:=(Bool.and_eq_true_iff.mp e).2;split at q
 .rename_i r a;exact⟨r,a,q⟩
 .cases q
theorem k12:zDN 1 2 6 0 (m0 1 2)=true:=by kernel_rfl
theorem zTF (f:Fl w h):zDN w h 6 0 (m0 w h)=true:=Fl.ind (P:=λw h=>zDN w h 6 0 (m0 w h)=true) (by kernel_rfl) k12 (by kernel_rfl) (by kernel_rfl) (by kernel_rfl) (by kernel_rfl) f
theorem zMj (ns:List Int)(l u:Option Int):∃ ms:List Int,cutD (ns.map D.int) l u=ms.map D.int/\ms.length<=ns.length:=by
 unfold cutD;exact⟨(ns.drop _).take _,by rw[List.map_take,List.map_drop],by rw[length_take,List.length_drop];omega⟩
theorem zLh (ms:List Int):noLs (ms.map D.int)=true:=by
 induction ms with
 | nil=>rfl
 | cons m ms ih =>
  assumption
section
variable {w h d0:Nat}{M:Mem}{P:PP}{is:List Int}{c:Int}{Q:MR->Prop}
theorem zH9 (p:Ph2 w h d0 M P is c)(a:Q (.loc M.length,M++[ordW is])):EvP (zA2 [picW P] M) Q:=by
 refine zDL rfl (by decide) ?_;unfold zB4;show EvP (evSs' GL2 D17 _ ⟨[some (picW P)],M⟩) _;exact zAC (zCp (zSv (zBh (zAH rfl ⟨_,_,_,_,_,rfl,by decide +kernel,p.hx,rfl,_,_,rfl,p.ho,zDb a⟩))))
theorem zMt (f:Fl w h)(p:Ph2 w h d0 M P is c)(j:∀ (M':Mem) (m:Nat),Kx [P.x] M M'->Ph2 w h d0 M' (P.mm m) is c->M'[M.length]?=some []->Q (.loc M.length,M')):EvP (zAh [picW P] M) Q:=by
 refine zHD (Z:=λ_=>True) (is:=is) f p.hx p.hm (.inl rfl) (λz=>absurd rfl z) λM' k x m t=>?_
 rw[if_pos rfl] at k t;obtain⟨i,e,d⟩:=p.ne;obtain⟨a,b,g⟩:=p.ha;exact j M' (M.length+1) k ⟨x,k.get (by simpa using i.symm) p.ho,⟨a,k.get (by simpa using e.symm) b,g⟩,m,k.get (by simpa using d.symm) p.hd,p.ne⟩ t
theorem zLE {ns xs:List Int}{g cl:Nat}{o3 o4 o6 o8 o11:Option W}(f:Fl w h)(p:Ph2 w h d0 M P is c)(hg:g<=6)(hi:∀ k∈is,0<=k/\k < (g:Int))(hc:M[cl]?=some (ordW xs))(hx:xs.length<=70)(ncl:cl≠P.x)(hQ:∀ M',Q (.dat (.bl true),M')) :
  EvP (evSs' GL2 D22 (.cons (.for1 8 (.rng (.pur (.len (.var 10)))) (.cons (.set 11 (.pur (.call 45 "_law_spread" (.cons (.ix (.var 10) (.var 8)) (.cons (.var 8) .nil))))) (.cons (.ife (.not (.call 22 "_law_tried" (.cons (.var 5) (.cons (.var 11) (.cons (.var 9) (.cons (.var 7) (.cons (.mk 9 "Rub" "strength" true (.cons (.lst .nil) .nil)) .nil))))))) (.cons (.ret (.pur (.bl false))) .nil) .nil) (.cons (.ife (.orl (.cons (.cmp .NotEq (.mth [("Picture",18)] "numbers" (.var 5) .nil) (.var 9)) (.cons (.cmp .NotEq (.mth [("Picture",20)] "renew" (.var 5) .nil) (.lst .nil)) .nil))) (.cons (.ret (.pur (.bl false))) .nil) .nil) .nil)))) (.cons (.ret (.pur (.bl true))) .nil))
   ⟨[some (.dat (scr ns)),some (.dat (.int (w:Int))),some (.dat (.int (h:Int))),o3,o4,some (picW P),o6,some (.dat (.int (g:Int))),o8,some (.loc d0),some (.loc cl),o11],M⟩) (KFM Q):=by
 refine zAC (zCX (zDo (zAy rfl (zC5 (zAm (zAL rfl (zB5 hc)) (zF1 (zAo rfl ⟨_,rfl,by rw[List.length_map];omega,?_⟩)))))));rw[List.length_map,toNat_natCast];refine zC4 (s:=⟨_,_⟩) ((rngL 0 xs.length).map .dat) (λj t=>∃ (o8 o11:Option W) (M':Mem) (m:Nat),t=⟨[some (.dat (scr ns)),some (.dat (.int (w:Int))),some (.dat (.int (h:Int))),o3,o4,some (picW P),o6,some (.dat (.int (g:Int))),o8,some (.loc d0),some (.loc cl),o11],M'⟩/\Ph2 w h d0 M' (P.mm m) is c/\M'[cl]?=some (ordW xs)) (by rw[nrng];omega) (λ_ _ _=>rfl) ?_ ?_ ⟨o8,o11,M,P.m,rfl,p,hc⟩
 .rintro j y t ey ⟨o8,o11,M',m,rfl,p,hc'⟩;obtain⟨rfl,hj⟩:=idx ey;have e1:xs[j]?=some xs[j]:=getElem?_eq_getElem hj;generalize xs[j]=x0 at e1;refine⟨_,rfl,?_⟩;dsimp only;(walk_at "s");refine zAC (zBW (zAy rfl (zBv rfl (zAx (zIQ (zAm (zAL rfl (zB5 hc')) (zAm (zAL rfl zAN) (zFG (d:=.int x0) (zCQ (by rw[getElem?_map,e1];rfl)) (n_cl (zAx (zAm (zAL rfl zAN) (n_cl (zCV ?_)))))))))))));refine zIj x0 (j:Int) _ (by omega) (by omega) λx=>n_cl (zAo rfl (zAZ ?_))
  (walk_at "s");refine zAC (zA9 (zNx (zFx (F:=FM48) rfl (zAE (zAH rfl (zAE (zAH rfl (zAE (zAH rfl (zAE (zAH rfl (zAE ?_))))))))))));refine m_mk (F:=zDA) (y := "Rub()") rfl (by decide +kernel) (zAE (zFw (zAW ⟨zero_le _,zAW ?_⟩)));refine(show EvP (zDA [.loc M'.length,.dat .non] (M'++[[]])) _ from ?_);refine zQN zBR λL U=>zAW ?_
  refine(show EvP (FM48 [picW (P.mm m),.dat (.int x),.loc d0,.dat (.int (g:Int)),L] (M'++[[]]++U)) _ from ?_);refine zLF p.app.app hg hi λU2=>⟨true,rfl,no_t,λ_=>zAe (zAZ ?_)⟩
  have p2:Ph2 w h d0 (M'++[[]]++U++U2) (P.mm m) is c:=p.app.app.app;have c2:(M'++[[]]++U++U2)[cl]?=some (ordW xs):=zBD (zBD (zBD hc'));dsimp only;generalize M'++[[]]++U++U2=a at p2 c2;refine zAC (zA9 (zP4 (zHy (zGl (zDa (zAH rfl ⟨_,_,_,zA2,rfl,rfl,rfl,by decide +kernel,zAW ?_⟩))))));refine(show EvP (zA2 [picW (P.mm m)] a) _ from ?_);refine zH9 p2 (zAH rfl ⟨_,_,zB5 zBR,zB5 (zBD p2.hd),zSL (zAo rfl ⟨_,rfl,rfl,?_⟩)⟩);refine zHy (zGl (zDa (zAH rfl ⟨_,_,_,zAh,rfl,rfl,rfl,by decide +kernel,zAW ?_⟩)));refine(show EvP (zAh [picW (P.mm m)] (a++[ordW is])) _ from ?_);refine zMt f p2.app λC1 m' k p3 t3=>zFw (zAW ⟨zero_le _,_,_,zB5 (ds:=[]) (zBD t3),zB5 (ds:=[]) zBR,zSL (is:=[]) (zAo rfl ⟨_,rfl,no_t,λ_=>zAe (zAZ (zAe ?_))⟩)⟩)
  exact⟨_,_,_,m',rfl,p3.app,zBD (k.get (by simpa using ncl) (zBD c2))⟩
 .rintro t ⟨o8,o11,M',m,rfl,p,hc'⟩;exact zAZ (zAC (zCp (zAy rfl (zPX (zAo rfl (zDb (hQ M')))))))
end
theorem n1o (h:0<=x):∃ w:Nat,1+x=(w:Int):=⟨(1+x).toNat,by omega⟩
theorem flo {x y:Int}{w h:Nat}(a:0<=x)(b:x < 3)(c:0<=y)(d:y < 2)(e:1+x=w)(f:1+y=h):Fl w h:=⟨by omega,by omega,by omega,by omega⟩
theorem zCo.widen (p:zCo Z w h B M P is c)(d:∀ y,Z' y->Z y\/M.length<=y)(n:∀ y,Z y->Z' y):zCo Z' w h B M P is c:=by
 obtain⟨m,b1,b2,b3,b4⟩:=p.hb;refine⟨p.d,p.gr,λy a b=>n y (p.hz y a b),p.hx,p.ho,p.ha,⟨m,b1,b2,b3,λk i=>?_⟩,p.hm,p.hg,p.hr,p.nd,p.ln,p.lt⟩;obtain⟨t,f,l,R,g,j⟩:=b4 k i;exact⟨t,f,l,R,λz=>(d _ z).elim g λq=>by have:=R.ll.lt.1;omega,λp e z=>(d _ z).elim (j p e) λq=>by have:=R.ll.lt.2 p e;omega⟩
theorem zQ8 (ns:List Int)(hn:ns.length<=63):EvP (FM49 [.dat (scr ns)] []) λx=>x.1=.dat (.bl true):=by
 refine zDL rfl (by decide) ?_;show EvP (evSs' GL2 D22 mb49 ⟨[some (.dat (scr ns)),none,none,none,none,none,none,none,none,none,none,none],[]⟩) _;unfold mb49;refine zAC (zBW (zAy rfl (zA7 (zAd (zA7 (zBv rfl (zAx (zAm (zAL rfl zAN) (n_cl (zAx (zAd (n_cl (zCV ?_)))))))))))));refine h44 ns 0 _ (by decide) ?_;refine n_cl (zAd (zB1 (by decide) (zMs (zAo rfl (zAZ ?_)))));(walk_at "s");refine zAC (zBW (zAy rfl (zA7 (zAd (zA7 (zBv rfl (zAx (zAm (zAL rfl zAN) (n_cl (zAx (zAd (n_cl (zCV ?_)))))))))))));refine h44 ns 1 _ (by decide) ?_;refine n_cl (zAd (zB1 (by decide) (zMs (zAo rfl (zAZ ?_)))));(walk_at "s");have m:=x8 (cel ns 0) (show (0:Int) < 3 by decide);have A:=Int.fmod_lt_of_pos (cel ns 0) (show (0:Int) < 3 by decide);have u:=x8 (cel ns 1) (show (0:Int) < 2 by decide);have o:=Int.fmod_lt_of_pos (cel ns 1) (show (0:Int) < 2 by decide);obtain⟨w,X⟩:=n1o m;obtain⟨h,Q⟩:=n1o u;rw[X,Q];have f:=flo m A u o X Q;clear m A u o X Q;refine zAC (zBW (zFw (zAE (zFw (zAE (zAy rfl ?_))))));(walk_at "w");refine zAo rfl (zAE (zAy rfl ?_));(walk_at "w");refine zAo rfl (zAE (zAy rfl ?_));(walk_at "w");refine zAo rfl (zAE (zAy rfl ?_));(walk_at "w");refine zAo rfl (zAW ⟨by show 4<=10000;decide,zAW ⟨by show 1<=10000;decide,zAZ ?_⟩⟩);(walk_at "s");refine(show EvP (evSs' GL2 D22 _ ⟨[some (.dat (scr ns)),some (.dat (.int (w:Int))),some (.dat (.int (h:Int))),some (.loc 1),none,none,none,none,none,none,none,none],[boxP.map W.dat,[.loc 0]]⟩) _ from ?_);refine zAC (zBW (m_mk (F:=zDP) (y := "Fill()") rfl (by decide +kernel) (zAE (zAH rfl (zAE (zAy rfl ?_))))));(walk_at "w");refine zAo rfl (zAW ⟨_,zR0,zAZ ?_⟩);(walk_at "s");refine zAC (zBW (m_mk (F:=zBp) (y := "Picture()") rfl (by decide +kernel) (zAE (zAH rfl (zAE (zAH rfl (zAW ⟨_,zSm f,zAZ ?_⟩)))))));(walk_at "s");have N:=zTF f;generalize m0 w h=M2 at N;refine zAC (zBW (zAy rfl (zBv rfl (zAx (zAm (zAL rfl zAN) (n_cl (zAx (zAd (n_cl (zCV ?_))))))))));refine h44 ns 2 _ (by decide) (n_cl (zAo rfl (zAZ ?_)));(walk_at "s");generalize cel ns 2=bits;refine zAC (zBW (zAy rfl (zA7 (zAm (zAL rfl zAN) (zAd (zB1 (by decide) (zAo rfl (zAZ ?_))))))));(walk_at "s");obtain⟨g,hg,eg⟩:=zKJ (x:=bits) (n:=7) (by decide);rw[show bits.fmod 7=(g:Int) from eg];refine zAC (zCX (zDo (zAH rfl ⟨_,rfl,by omega,?_⟩)));rw[toNat_natCast];refine zC4 (s:=⟨_,_⟩) ((rngL 0 g).map .dat) (λj s=>∃ (i:Option W) (d:Mem),s=⟨[some (.dat (scr ns)),some (.dat (.int (w:Int))),some (.dat (.int (h:Int))),some (.loc 1),some (zKL 3),some (picW (PK h)),some (.dat (.int bits)),some (.dat (.int (g:Int))),i,none,none,none],d⟩/\zDN w h (6 - j) j d=true) (by rw[nrng];omega) (λ_ _ _=>rfl) ?_ ?_ ⟨none,M2,rfl,N⟩
 .rintro j y s M ⟨i,d,rfl,c⟩;obtain⟨rfl,hj⟩:=idx M;refine⟨_,rfl,?_⟩;dsimp only;(walk_at "s");rw[show 6 - j=(6 - (j+1))+1 by omega] at c;obtain⟨r,er,c2⟩:=zKr c;exact zAC (zBq (zDa (zAH rfl ⟨_,_,_,zBa,rfl,rfl,rfl,by decide +kernel,zAE (zAH rfl (zAW ⟨r,er,zAZ (zAe ⟨_,_,rfl,c2⟩)⟩))⟩)))
 rintro s ⟨i,l,rfl,J⟩;rw[nrng] at J;have G:=zQY f (zKq J);have t:9+h < l.length:=(zzg G.hx).1;clear J N;generalize hP:PK h=P at G;have ho:P.o=4:=by rw[<- hP]
 have O:P.x=9+h:=by rw[<- hP]
 clear hP;rw[<- O] at t;refine zAZ (zAC (zBW (zFw (zAW ⟨zero_le _,zAZ ?_⟩))));(walk_at "s");have V:zCo (λy=>(P.o<=y/\y<=P.x)\/y=l.length) w h 6 (l++[[]]) P (tl 0 g) (g:Int):=by
  have q:=(G.widen (Z':=λy=>(P.o<=y/\y<=P.x)\/y=l.length) (λy z=>by omega) λy z=>by omega).keep (S:=[]) (zF4 (U:=[[]])).kx (by simp) (by simp);obtain⟨L,m,A,u,o⟩:=q.ha;obtain⟨lb,b1,b2,b3,b4⟩:=q.hb;exact⟨q.d,q.gr,q.hz,q.hx,q.ho,⟨L,m,A,by omega,o⟩,⟨lb,b1,b2,by omega,b4⟩,q.hm,q.hg,q.hr,q.nd,by have:=q.ln;omega,q.lt⟩
 generalize hd0:l.length=d0 at V t;have e4:(l++[[]]:Mem)[d0]?=some (ordW []):=by rw[<- hd0];exact zBR
 generalize (l++[[]]:Mem)=M4 at V e4;clear G hd0;refine zAC (zCX (zDo (zAH rfl ⟨_,rfl,by omega,?_⟩)));rw[toNat_natCast];refine zC4 (s:=⟨_,_⟩) ((rngL 0 g).map .dat) (λj s=>∃ (i:Option W) (d:Mem) (b:List Int),s=⟨[some (.dat (scr ns)),some (.dat (.int (w:Int))),some (.dat (.int (h:Int))),some (.loc 1),some (zKL 3),some (picW P),some (.dat (.int bits)),some (.dat (.int (g:Int))),i,some (.loc d0),none,none],d⟩/\zCo (λy=>(P.o<=y/\y<=P.x)\/y=d0) w h 6 d P (b++tl j (g - j)) (g:Int)/\d[d0]?=some (ordW b)/\∀ k∈b,0<=k) (by rw[nrng];omega) (λ_ _ _=>rfl) ?_ ?_ ⟨i,M4,[],rfl,V,e4,by simp⟩
 .rintro j y s M ⟨i,d,b,rfl,p,e,E⟩;obtain⟨rfl,hj⟩:=idx M;refine⟨_,rfl,?_⟩;dsimp only;(walk_at "s");rw[show g - j=(g - (j+1))+1 by omega,zNt] at p;obtain⟨v,ev,v0,v1⟩:∃ v:Int,atI [D.int 1,.int 2,.int 4,.int 8,.int 16,.int 32] (j:Int)=some (.int v)/\v≠0/\v.natAbs < 2^64:=by
   have:j=0\/j=1\/j=2\/j=3\/j=4\/j=5:=by omega
   rcases this with rfl | rfl | rfl | rfl | rfl | rfl<;>exact⟨_,rfl,by decide,by decide⟩
  refine zAC (zA9 (zEt rfl ?_));(walk_at "w");refine zFT (zCL (by decide) (by decide)) ?_;(walk_at "w");refine zFG ev ?_;(walk_at "w");refine zFT (zCL v0 v1) ?_;(walk_at "w");refine zB1 (by decide) ?_;(walk_at "w");refine⟨λ_=>?_,λ_=>?_⟩
  .refine zAC (zMy (zAH rfl (zAH rfl ⟨_,_,rfl,e,?_,zAZ (zAe (zAZ (zAe ⟨_,_,b++[(j:Int)],rfl,?_,?_,?_⟩)))⟩)))
   .have:=p.ln;rw[qj] at this;rw[List.length_map,List.length_map];omega
   .rw [qJ];exact p.keep (S:=[d0]) (zF3.kx.set (.inl (by simp))) (λy H=>.inr (by simpa using H)) (λy H=>.inr (by rw[mem_singleton.mp H];omega))
   .rw [getElem?_set_self (zzg e).1];simp[ordW]
   .intro k B;rcases mem_append.mp B with z | z
    .exact E k z
    .rw [mem_singleton.mp z];omega
  .refine zAC (zBq (zDa (zAH rfl ⟨_,_,_,zBU,rfl,rfl,rfl,by decide +kernel,zAE (zAH rfl (zAW ?_))⟩)));refine(show EvP (zBU [picW P,.dat (.int (j:Int))] d) _ from ?_);have nj:(j:Int)∉b:=λz=>by
    have:=nodup_append.mp p.nd;exact this.2.2 _ z _ xy rfl
   refine zPm f p (by simp) λM5 k5 a=>zAZ (zAe (zAZ (zAe ⟨_,_,b,rfl,?_,k5.get (λz=>?_) e,E⟩)))
   .rw [List.erase_append_right _ nj,List.erase_cons_head] at a;exact a
   .have:=p.d;simp only[PP.S,mem_cons,not_mem_nil,or_false] at z;omega
 rintro s ⟨i,R,b,rfl,a,e5,E⟩;rw[nrng,sub_self,show tl g 0=[] from rfl,append_nil] at a;refine zAZ (zAC (zBq (zDa (zAH rfl ⟨_,_,_,zAh,rfl,rfl,rfl,by decide +kernel,zAW ?_⟩))));refine(show EvP (zAh [picW P] R) _ from ?_);obtain⟨lm,Y,m2⟩:=a.hm;refine zHD f a.hx Y m2 (λ_=>a) λM6 C I Z t6=>zAZ ?_
 have q:Ph2 w h d0 M6 (P.mm (R.length+1)) b (g:Int):=by
  obtain⟨d1,d2,d3,d4,d5⟩:=a.d;have gr:=a.gr;have K:∀ {y:Nat},(y<=P.m\/P.x < y)->y∉(P.x::if lm=[] then [] else P.R h):=λ{y} H z=>by
   rcases mem_cons.mp z with z | z
   .omega
   .by_cases e:lm=[]
    .rw [if_pos e] at z;cases z
    .rw [if_neg e] at z;have:=R_in z;omega
  obtain⟨L,m,A,u,o⟩:=a.ha;exact⟨I,C.get (y:=P.o) (K (by omega)) a.ho,⟨L,C.get (y:=P.a) (K (by omega)) m,o⟩,Z,C.get (K (by omega)) e5,by dsimp only;omega,by dsimp only;omega,by dsimp only;omega⟩
 have hi:∀ k∈b,0<=k/\k < (g:Int):=λk B=>⟨E k B,a.lt k B⟩
 have c4:P.x < M6.length:=(zzg I).1;clear C I Z t6 a e5 Y m2;obtain⟨T,em,b6⟩:=zMj ns (some 3) (some 33);refine zAC (zBW (zAy rfl (zA7 (zKO (zAx (zBv rfl (zAx (zAm (zAL rfl zAN) (n_cl (zAx (zAd (n_cl (zCV ?_)))))))))))));refine h44 ns 3 _ (by decide) (n_cl (n_cl (zAx (zBv rfl (zAx (zAm (zAL rfl zAN) (n_cl (zAx (zAd (n_cl (zCV ?_)))))))))));refine h44 ns 4 _ (by decide) (n_cl (n_cl (zCV ⟨by show 2<=10000;decide,?_⟩)));refine zR5 (zAm (zAL rfl zAN) ⟨some 3,rfl,some 33,rfl,ns.map .int,rfl,?_⟩);rw[em];refine zSO (by rw[List.length_map];show 2+_<=_;omega) ?_;rw[show [D.int (cel ns 3),D.int (cel ns 4)]++T.map D.int=(cel ns 3::cel ns 4::T).map D.int from rfl];refine ⟨_,if_pos (zLh _),(zAZ ?_)⟩;(walk_at "s");exact zLE (P:=P.mm (R.length+1)) (xs:=cel ns 3::cel ns 4::T) f q.app (by omega) hi zBR (by simp only[x9];omega) (by show M6.length≠P.x;omega) λ_=>rfl
theorem law_true (ns:List Int)(hn:ns.length<=63):∃ M,FM49 [.dat (.lst (ns.map D.int))] []=some (.dat (.bl true),M):=by
 obtain⟨⟨w,M⟩,e,q⟩:=zQ8 ns hn;cases q;exact⟨M,e⟩
end Q
end
namespace PySem.W.Fast
abbrev P:=True
def tw9967609752054630608:=P
def tw9898336087999124160:=P
def tw9882624448926952153:=P
def tw9860490519876136215:=P
def tw9694808046991981698:=P
def tw9689217819217970058:=P
def tw9612984505100667258:=P
def tw9490628642426077809:=P
def tw9305002063979834342:=P
def tw9261288374201265118:=P
def tw9163825299381912631:=P
def tw9094815203883369044:=P
def tw9066893942559413976:=P
def tw9005352985390283874:=P
def tw8928108111514735246:=P
def tw8834797764841137761:=P
def tw8829471449672806763:=P
def tw8772040957035197484:=P
def tw8720615244338519266:=P
def tw866184494523703705:=P
def tw10006301412042715766:=P
def tw10051344797298477648:=P
def tw10052992590794660982:=P
def tw10058896948853547662:=P
def tw10098143383024867635:=P
def tw10153705539640854570:=P
def tw1021601273826501246:=P
def tw10248142924059085055:=P
def tw10346276479108532868:=P
def tw1036482828203298468:=P
def tw10435807100396270300:=P
def tw10448415009009803356:=P
def tw10510336751298250777:=P
def tw1061516514192510675:=P
def tw10651930693372850625:=P
def tw1065901921480457665:=P
def tw10686639777144865107:=P
def tw10695557944704136033:=P
def tw10745240478223346714:=P
def tw10759908980612321746:=P
def tw10762350282905328373:=P
def tw10823957333622915882:=P
def tw10828120214037676753:=P
def tw10839237639714078996:=P
def tw10848025716525443840:=P
def tw10857732141882680217:=P
def tw10866076515428656865:=P
def tw10904257801085277386:=P
def tw10949608071096508980:=P
def tw11009227290946783444:=P
def tw11022851719445391113:=P
def tw11097233319664742513:=P
def tw11099099036250677435:=P
def tw11101651114185060076:=P
def tw11114443325004468294:=P
def tw11194459409119102843:=P
def tw11317256383384197850:=P
def tw11371234234181228696:=P
def tw11410072169085835971:=P
def tw11428134536744497190:=P
def tw11473007538733091555:=P
def tw11545889406785283402:=P
def tw11577712297251417480:=P
def tw11599821102321779001:=P
def tw1163494777225846009:=P
def tw11666326778144090958:=P
def tw11758480154378198424:=P
def tw11764449417216012833:=P
def tw11769010921689855007:=P
def tw11805441202004306134:=P
def tw11830558416984659105:=P
def tw11867161585144928900:=P
def tw1192033775811015556:=P
def tw11934161609440461401:=P
def tw12080569532427428626:=P
def tw12080576813568896777:=P
def tw12096036383001724806:=P
def tw12127894930873031897:=P
def tw12135506877387700809:=P
def tw12147058871672146878:=P
def tw12163281429210960737:=P
def tw12172562082572476679:=P
def tw12175843773763393321:=P
def tw12182588189740700273:=P
def tw12184010616912087874:=P
def tw12221218482613917165:=P
def tw12244538735455814465:=P
def tw12263876053795607566:=P
def tw12293798417335529932:=P
def tw12297147384676804213:=P
def tw12310304038561924424:=P
def tw12333636726363015263:=P
def tw12343050348603271870:=P
def tw12349482866159077500:=P
def tw12383796208425188867:=P
def tw12386902106569770182:=P
def tw1243726529667931603:=P
def tw12438483990061048413:=P
def tw12471160675020599809:=P
def tw12521770439764839169:=P
def tw12533554602037392367:=P
def tw12573703544497703955:=P
def tw12584900631755567028:=P
def tw1259182243927704199:=P
def tw12606697851259254315:=P
def tw12624376742965519725:=P
def tw12642763301025266060:=P
def tw12719835583876046466:=P
def tw127564692843091297:=P
def tw12758888884647287972:=P
def tw1275889973302417239:=P
def tw127599376963437087:=P
def tw12759943718940695284:=P
def tw12815057186261171762:=P
def tw128418842306238321:=P
def tw12848889414679257931:=P
def tw12874427511145541412:=P
def tw12885429584695060298:=P
def tw12887703576197599575:=P
def tw12891185229303549454:=P
def tw12918258622931505260:=P
def tw12943055512435429192:=P
def tw13022448239125765025:=P
def tw13064786582155902674:=P
def tw13078617814150987901:=P
def tw13094861535190279972:=P
def tw13181905852002065631:=P
def tw1318768241970920629:=P
def tw13188046609243323357:=P
def tw13207595623720850827:=P
def tw1322138510444852536:=P
def tw13260235773011506349:=P
def tw13284657582588542978:=P
def tw13290635444759198963:=P
def tw13388426492902713898:=P
def tw13442111554075096207:=P
def tw13475278227033711565:=P
def tw13681527994078640432:=P
def tw13697316067568030482:=P
def tw13886046624853807532:=P
def tw13890477319581644796:=P
def tw13951474879586698105:=P
def tw13961859687476172929:=P
def tw13967666994698879732:=P
def tw13989277948821331999:=P
def tw14007225033617259139:=P
def tw14057391344503125233:=P
def tw14058527876800690482:=P
def tw14149549427744369757:=P
def tw14155360101603603330:=P
def tw14182571244717959731:=P
def tw14242261062873484258:=P
def tw14294765459795474465:=P
def tw14307329179686603814:=P
def tw14326015317152961052:=P
def tw14373149087701415573:=P
def tw14436132508396444316:=P
def tw1444685043149420995:=P
def tw14490149608927636988:=P
def tw14512940397275251078:=P
def tw14517923571071485976:=P
def tw14542807730748420369:=P
def tw14545720366144760465:=P
def tw14586867482201430272:=P
def tw14606654864974071438:=P
def tw14704720856115361097:=P
def tw14709271223514982536:=P
def tw14712671071579536382:=P
def tw1474456123573968116:=P
def tw14847906862790824535:=P
def tw14860567997637903772:=P
def tw1486730130464702140:=P
def tw15021419192777942145:=P
def tw15054446273408508668:=P
def tw15060317248458089285:=P
def tw15080387735298905171:=P
def tw15088943482488196190:=P
def tw15108989435362131590:=P
def tw1515272402593459710:=P
def tw15173195093567184413:=P
def tw15204018718699052043:=P
def tw15250165107205922381:=P
def tw15285530097289579531:=P
def tw1534777663627131149:=P
def tw15351773036258894719:=P
def tw15359666511151761846:=P
def tw15364470064020696446:=P
def tw15530122004450950503:=P
def tw15538612618224832516:=P
def tw15541271654221375041:=P
def tw15562417629686829653:=P
def tw15568228882897727352:=P
def tw15580815273266175410:=P
def tw15581703154776253603:=P
def tw15604781011987199632:=P
def tw15739967201925724468:=P
def tw15888868780034617754:=P
def tw15955735766555121285:=P
def tw15991357460714313181:=P
def tw16004269943416099275:=P
def tw16006139328333384360:=P
def tw16060314120827949452:=P
def tw16103324483548663081:=P
def tw16142841361580751628:=P
def tw16209826471792620417:=P
def tw16218302544191026098:=P
def tw16232642910217258131:=P
def tw16249752165626973733:=P
def tw16292155539640009251:=P
def tw16329574851900072553:=P
def tw16392826597747664042:=P
def tw16417121167762186991:=P
def tw1645711224031212373:=P
def tw16473085288335120634:=P
def tw16524311796416204600:=P
def tw16525254151069715354:=P
def tw16530582134417108098:=P
def tw16556764227659036891:=P
def tw16573021945240494436:=P
def tw16573261026845308039:=P
def tw16612160588798268689:=P
def tw16617957614703198448:=P
def tw16620316044343145308:=P
def tw16695570514301184417:=P
def tw16701394035428976636:=P
def tw16703317881576828695:=P
def tw16798908371325072569:=P
def tw16818208904205006857:=P
def tw16855962039997898122:=P
def tw16883155760276288640:=P
def tw16906257366162692117:=P
def tw16939508851404887230:=P
def tw16989460330971280771:=P
def tw16994681048184725094:=P
def tw17007498453484991957:=P
def tw17009270984017029872:=P
def tw1707864736554762429:=P
def tw17097078557997116329:=P
def tw17138341663588477987:=P
def tw17185773734222298191:=P
def tw17207716278162600729:=P
def tw17245601052292025349:=P
def tw17278036809130488622:=P
def tw17282051155670445534:=P
def tw1733007358531906538:=P
def tw17368386438079458836:=P
def tw17420154764827990014:=P
def tw17498238625969268136:=P
def tw17537975802986540807:=P
def tw17566832516301618876:=P
def tw17583117206096367080:=P
def tw1759169357409227442:=P
def tw17605800720590352330:=P
def tw17619053395247278959:=P
def tw17619910884101075964:=P
def tw17751526059824335049:=P
def tw17791963774524367157:=P
def tw17872808662232914201:=P
def tw17884514349628832697:=P
def tw17886884986835881912:=P
def tw17892011328747921569:=P
def tw17894806454903426340:=P
def tw17906406919757042669:=P
def tw1790918573594788271:=P
def tw17921869287706802884:=P
def tw17935707857422380641:=P
def tw17940617190607183127:=P
def tw18034048783623117779:=P
def tw18041501467860160466:=P
def tw18048767795276103641:=P
def tw1804920911656242304:=P
def tw18072496673275186297:=P
def tw18100802870407366644:=P
def tw18150026484072135693:=P
def tw18194051285688617034:=P
def tw18220847968916011317:=P
def tw18230871776968613533:=P
def tw18249630680722894747:=P
def tw18325472581093824159:=P
def tw18381087575315439731:=P
def tw18415219137246767824:=P
def tw189961619791274449:=P
def tw1960330776904504241:=P
def tw1970675949057268695:=P
def tw2051341026487103988:=P
def tw2058273602577267198:=P
def tw2076488756193147847:=P
def tw2115992415212375410:=P
def tw2141646106951536430:=P
def tw2203396698603029448:=P
def tw2283611036173507631:=P
def tw2380643292416504888:=P
def tw2403762600936820002:=P
def tw242728650079033809:=P
def tw2485044337756239583:=P
def tw2532216139516983000:=P
def tw2537770453409274927:=P
def tw2545608425804748562:=P
def tw2589159200432050847:=P
def tw2591674143898092870:=P
def tw2600090516901770314:=P
def tw2601506561727740499:=P
def tw2649701706274765772:=P
def tw2733858612634287464:=P
def tw2875196979980145329:=P
def tw2979232264965648176:=P
def tw2989305703458895855:=P
def tw2992276732995988289:=P
def tw3090873253293361759:=P
def tw3108251041029994387:=P
def tw3180447920621143411:=P
def tw3219096943495832960:=P
def tw322890962496993417:=P
def tw3293495316108021749:=P
def tw3294693248850346745:=P
def tw3310411056023460233:=P
def tw3322788770008306428:=P
def tw3389096123535461676:=P
def tw3464153144493779305:=P
def tw3632845824977968:=P
def tw3651947974114230343:=P
def tw3677586031816745227:=P
def tw370036628445450043:=P
def tw3734702640143237507:=P
def tw3762901769546163770:=P
def tw37676566885211504:=P
def tw3798526798630398256:=P
def tw3836966896565014685:=P
def tw3846183332947003034:=P
def tw3858030527756151694:=P
def tw3874271422807582827:=P
def tw3881883106450669447:=P
def tw390838556469470602:=P
def tw393272753681594881:=P
def tw40114744503208587:=P
def tw4033138061860532280:=P
def tw4038265312787734301:=P
def tw4050964999991726467:=P
def tw4052828054971173276:=P
def tw4085761539234611134:=P
def tw4138853830920739254:=P
def tw4225251034461176767:=P
def tw4271612790823620944:=P
def tw4306897844292668577:=P
def tw4332096278196410306:=P
def tw4365116748577304608:=P
def tw4372164904739345991:=P
def tw4385840436631048734:=P
def tw4402015009824877793:=P
def tw4404022211500880697:=P
def tw4409753923733103832:=P
def tw4534071394261338163:=P
def tw4534934265988277341:=P
def tw4584773149526020796:=P
def tw459154428394512837:=P
def tw4597327943141376462:=P
def tw4621918074376623815:=P
def tw463767168125866988:=P
def tw4641169784714595880:=P
def tw472600511845587182:=P
def tw4737090972851611768:=P
def tw479021833689162110:=P
def tw4818469498150825617:=P
def tw4840279869835666026:=P
def tw4881352179377673976:=P
def tw489613324227662637:=P
def tw495678407899620763:=P
def tw4979687828732982451:=P
def tw4982122556779750725:=P
def tw4999620125365319556:=P
def tw503597328840778103:=P
def tw5036913390276285852:=P
def tw5057910561192503907:=P
def tw5077296473445623018:=P
def tw5135174552873221652:=P
def tw516732001874597536:=P
def tw5277498322692180775:=P
def tw5340671846619604641:=P
def tw5382897575949563047:=P
def tw5385573512894892034:=P
def tw5413228611555785073:=P
def tw5483808793283775590:=P
def tw5488125725277935948:=P
def tw5522991469317462493:=P
def tw5545410578819731034:=P
def tw5559347815480355799:=P
def tw556414124453422354:=P
def tw5564653705899675472:=P
def tw5593294125387500893:=P
def tw561022243135877740:=P
def tw5621273827857069918:=P
def tw5622529051241737771:=P
def tw5729034141266686721:=P
def tw5764291866173323314:=P
def tw5809986047859616736:=P
def tw5893077517414460929:=P
def tw5928697528578196495:=P
def tw5952863164903497281:=P
def tw5995166111231820843:=P
def tw6024603168128353428:=P
def tw6029556346301482286:=P
def tw6030741249558782410:=P
def tw6071695475437579591:=P
def tw6087707801950679178:=P
def tw6098037364661439496:=P
def tw6122231147182999929:=P
def tw617884633851220786:=P
def tw623856683426325237:=P
def tw6336208176283094855:=P
def tw6361932831043140784:=P
def tw6404977499011692721:=P
def tw6407434618499011380:=P
def tw6426887702314520690:=P
def tw6438361448332577771:=P
def tw6438371773584450491:=P
def tw6451370827018567579:=P
def tw6546663427163468650:=P
def tw6562069574799564295:=P
def tw6574159764768830184:=P
def tw6588781172343168014:=P
def tw6594558339668907258:=P
def tw6615142430954765037:=P
def tw6630845136284875618:=P
def tw6634925075996199545:=P
def tw66916596207304214:=P
def tw6708881768296555501:=P
def tw6853487163748772362:=P
def tw6891805888153090413:=P
def tw6909351097504732525:=P
def tw6916395025467437474:=P
def tw6997555426824872767:=P
def tw7006927926629302912:=P
def tw7026683626595815422:=P
def tw7122438839554514457:=P
def tw7123717741009477019:=P
def tw7151537490582002601:=P
def tw7166808940410643573:=P
def tw7223103536585990412:=P
def tw7239313484033015300:=P
def tw7287972304187644118:=P
def tw7325209355556303104:=P
def tw7354916264293920461:=P
def tw7404357493626267603:=P
def tw7404722053796674146:=P
def tw7405636915728667809:=P
def tw7419405186131221833:=P
def tw742106432579635464:=P
def tw7458802068358635314:=P
def tw7508066280725669536:=P
def tw7518874046718233342:=P
def tw7532073707143194311:=P
def tw756240364917203155:=P
def tw7689723488714344235:=P
def tw771002572851153862:=P
def tw7743913761776645750:=P
def tw7750237431211732230:=P
def tw7761859867813845062:=P
def tw7780518422763008962:=P
def tw7790629520150979320:=P
def tw7798720320022783671:=P
def tw7923206247784366903:=P
def tw7951311766386359846:=P
def tw7965340384790651881:=P
def tw7965446126659855002:=P
def tw7993374580441008061:=P
def tw7994271458247350691:=P
def tw8015904905896996708:=P
def tw8035327636037639324:=P
def tw806090397397146118:=P
def tw8067239235035322574:=P
def tw8130901773602986589:=P
def tw820817904553434108:=P
def tw8308796631128001264:=P
def tw8315250059889351320:=P
def tw8401845836357494573:=P
def tw846302819168993333:=P
def tw851244755372562443:=P
def tw8520935433012527016:=P
def tw8527106876081828354:=P
def tw8541286841409354848:=P
def tw8547566483713920256:=P
def tw8585634628722926907:=P
def tw8601889386052944857:=P
def tw8649524204806435290:=P
def tw8708222224282117845:=P
def tw873260719194231086:=P
def tw8737338786359037575:=P
def tw874104830162931678:=P
def tw8831648522570611803:=P
def tw8833274946367519316:=P
def tw8891380604697737552:=P
def tw8974904547617295661:=P
def tw897829026950678438:=P
def tw9027908013667411504:=P
def tw9046337292246380711:=P
def tw9074096513168427544:=P
def tw9087221457695281132:=P
def tw910164948327334626:=P
def tw9108254229433141839:=P
def tw9124173713502907565:=P
def tw9151920719182801766:=P
def tw9158344389876572110:=P
def tw9178773750518728030:=P
def tw9181242241926567185:=P
def tw9245213098520510467:=P
def tw9255461304111140789:=P
def tw9256817125965901727:=P
def tw9265638221466438999:=P
def tw9287980577843769437:=P
def tw9330002386028388371:=P
def tw9421689197069223419:=P
def tw9466580966476337038:=P
def tw9488644119856730519:=P
def tw9559593782334632174:=P
def tw9689648288604426860:=P
def tw9703200921238399203:=P
def tw9745563210704927486:=P
def tw9763181313339951351:=P
def tw9808884026659572026:=P
def tw9869959601003594108:=P
def tw9873283293509117663:=P
def tw9957050828828271104:=P
end PySem.W.Fast
open PySem PySem.W PyProof.Rows
set_option maxRecDepth 100000 in
set_option maxHeartbeats 0 in
theorem PySem.Challenge.cw_coverfill_k37_no_layer_no_place_holds : PySem.Challenge.rw_coverfill_k37_no_layer_no_place.Holds := by
  w_on; o_law; k_head; (case hw => w_witness2)
  k_fill
  refine DL.walkM (k := 75) (F := Q.FM49) (l := PySem.Challenge.rw_coverfill_k37_no_layer_no_place) rfl rfl (by decide +kernel) (λ_ => rfl) ⟨rfl, by decide, by decide⟩ [(("thinned_covers" : PySem.Str), 388, 384), (("Fill.films" : PySem.Str), 450, 446), (("Picture.renew" : PySem.Str), 544, 540)] ?hrec ?htl ?htk ?hnd ?hnt (λw h Y => PySem.W.km_in_of Y) ?F Q.law_true
  case hrec =>
    intro w h Y t ht
    simp only[List.mem_cons, List.not_mem_nil, or_false] at ht
    rcases ht with rfl | rfl | rfl
    · exact⟨PySem.W.codeHd_of_K (PySem.W.km_in_of Y) (by kernel_rfl), PySem.W.km_tabs_of Y _ (by decide)⟩
    · exact⟨PySem.W.codeHd_of_K (PySem.W.km_in_of Y) (by kernel_rfl), PySem.W.km_tabs_of Y _ (by decide)⟩
    · exact⟨PySem.W.codeHd_of_K (PySem.W.km_in_of Y) (by kernel_rfl), PySem.W.km_tabs_of Y _ (by decide)⟩
  case htl => exact λ_ => DL.tabs_of (by kernel_rfl) (by kernel_rfl) (by kernel_rfl) (by kernel_rfl) (by kernel_rfl)
  case htk => exact by decide
  case hnd => exact by decide
  case hnt => exact λ_ => by kernel_rfl
  case F =>
    intro w mg fa h KX G hmg
    refine' Q.all_mk KX G hmg (lc0 := 388) (lp0 := 384) (by kernel_rfl) (lc1 := 450) (lp1 := 446) (by kernel_rfl) (lc2 := 544) (lp2 := 540) (by kernel_rfl) (DL.ft ?_ ?_ ?_ ?_) (DL.ft ?_ ?_ ?_ ?_) (DL.ft ?_ ?_ ?_ ?_) (DL.ft ?_ ?_ ?_ ?_) (DL.ft ?_ ?_ ?_ ?_) (DL.ft ?_ ?_ ?_ ?_) (DL.ft ?_ ?_ ?_ ?_) (DL.ft ?_ ?_ ?_ ?_) (DL.ft ?_ ?_ ?_ ?_) (DL.ft ?_ ?_ ?_ ?_) (DL.ft ?_ ?_ ?_ ?_) (DL.ft ?_ ?_ ?_ ?_) (DL.ft ?_ ?_ ?_ ?_) (DL.ft ?_ ?_ ?_ ?_) (DL.ft ?_ ?_ ?_ ?_) (DL.ft ?_ ?_ ?_ ?_) (DL.ft ?_ ?_ ?_ ?_) (DL.ft ?_ ?_ ?_ ?_) (DL.ft ?_ ?_ ?_ ?_) (DL.ft ?_ ?_ ?_ ?_) (DL.ft ?_ ?_ ?_ ?_) (DL.ft ?_ ?_ ?_ ?_) (DL.ft ?_ ?_ ?_ ?_) (DL.ft ?_ ?_ ?_ ?_) (DL.ft ?_ ?_ ?_ ?_) (DL.ft ?_ ?_ ?_ ?_) (DL.ft ?_ ?_ ?_ ?_) (DL.ft ?_ ?_ ?_ ?_) (DL.ft ?_ ?_ ?_ ?_) (DL.ft ?_ ?_ ?_ ?_) (DL.ft ?_ ?_ ?_ ?_) (DL.ft ?_ ?_ ?_ ?_) (DL.ft ?_ ?_ ?_ ?_) (DL.ft ?_ ?_ ?_ ?_) (DL.ft ?_ ?_ ?_ ?_) (DL.ft ?_ ?_ ?_ ?_) (DL.ft ?_ ?_ ?_ ?_) (DL.ft ?_ ?_ ?_ ?_) (DL.ft ?_ ?_ ?_ ?_) (DL.ft ?_ ?_ ?_ ?_) (DL.ft ?_ ?_ ?_ ?_) (DL.ft ?_ ?_ ?_ ?_) (DL.ft ?_ ?_ ?_ ?_) (DL.ft ?_ ?_ ?_ ?_) (DL.ft ?_ ?_ ?_ ?_) (DL.ft ?_ ?_ ?_ ?_) (DL.ft ?_ ?_ ?_ ?_) (DL.ft ?_ ?_ ?_ ?_) (DL.ft ?_ ?_ ?_ ?_) ?a49 ?l49 ?c49 ?k49 ?z0 ?z1 ?z2 ?z3 ?z4 ?z5 ?z6 ?z7 ?z8 ?z9 ?z10 ?ca0 ?cl0 ?cv0 ?ca1 ?cl1 ?cv1 ?ca2 ?cl2 ?cv2 ?xa0 ?xa1 ?xa2 ?xa3 ?xa4 ?xa5 ?xa6 ?xa7 ?xv ?xe0 ?xg0 ?xt0 ?xc0 ?xo0 ?xb0 ?xe1 ?xg1 ?xt1 ?xc1 ?xo1 ?xb1 ?xk0 ?xm0 ?xk1 ?xm1 ?xk2 ?xk3 ?xk4 ?xk5 ?xk6 ?xk7 ?xk8 ?xk9 ?xk10 ?xk11 ?xk12 ?xm12 ?xk13 ?xm13 ?xk14 ?xm14 ?xk15 ?xk16 ?xk17 ?xm17 (DL.uc ?_ ?_ ?_ ?_ ?_ ?_ ?_ (DL.nfc ?_ (DL.nfc ?_ (DL.nfc ?_ DL.nf0)))) (DL.uc ?_ ?_ ?_ ?_ ?_ ?_ ?_ (DL.nfc ?_ (DL.nfc ?_ DL.nf0))) (DL.uc ?_ ?_ ?_ ?_ ?_ ?_ ?_ (DL.nfc ?_ (DL.nfc ?_ (DL.nfc ?_ (DL.nfc ?_ (DL.nfc ?_ (DL.nfc ?_ (DL.nfc ?_ (DL.nfc ?_ (DL.nfc ?_ DL.nf0)))))))))) ?m_q0 ?i_q0 ?l_q0 ?c_q0 ?k_q0 ?lT_q0 (DL.fq ?_ ?_ ?_ ?_ ?_) ?m_q2 ?i_q2 ?l_q2 ?c_q2 ?k_q2 ?lT_q2 ?m_q3 ?i_q3 ?l_q3 ?c_q3 ?k_q3 ?lT_q3 (DL.fq ?_ ?_ ?_ ?_ ?_) (DL.fq ?_ ?_ ?_ ?_ ?_) (DL.fq ?_ ?_ ?_ ?_ ?_) (DL.fq ?_ ?_ ?_ ?_ ?_) (DL.fq ?_ ?_ ?_ ?_ ?_) (DL.fq ?_ ?_ ?_ ?_ ?_) (DL.fq ?_ ?_ ?_ ?_ ?_) (DL.fq ?_ ?_ ?_ ?_ ?_) (DL.fq ?_ ?_ ?_ ?_ ?_) (DL.fq ?_ ?_ ?_ ?_ ?_)
    all_goals try k_is
    all_goals try k_is
    all_goals first | rfl | decide +kernel | k_exc | kit_is | kts_exm

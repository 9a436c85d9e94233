import PyProof.Rows.All
import Wide.All
import OpenK.AllK
import Wide.FinOn
import Lean
import PyProof.EqAt
import PyProof.EqKinds
import PyProof.TupleCall
import PySem.Challenge.RW_wheelrow_k07_written
set_option Elab.async false
set_option linter.all false
set_option maxRecDepth 100000
namespace L2
open PySem PySem.Spec PyProof.Rows
abbrev Key:=Sum Int Str
def keyIs:Key → Value → Bool
  | .inl k,v=>Value.isInt k v
  | .inr x,v=>Value.isStrOf x v
def keyH (w:World):Key → Int
  | .inl k=>hashInt k
  | .inr x=>hashStr w x
theorem keyIs_shape:∀ {k:Key} {v:Value},keyIs k v = true → (∃ i t,k = Sum.inl i ∧ v = Value.int i t) ∨ (∃ x t,k = Sum.inr x ∧ v = Value.str x t)
  | .inl i,v,h=>by
    obtain ⟨t,e⟩:=Value.isInt_shape (k:=i) (v:=v) h
    exact .inl ⟨i,t,rfl,e⟩
  | .inr x,v,h=>by
    obtain ⟨t,e⟩:=Value.isStrOf_shape (x:=x) (v:=v) h
    exact .inr ⟨x,t,rfl,e⟩
theorem key_ll (a b:Int):decide ((Sum.inl a:Key) = Sum.inl b) = (a == b):=by
  by_cases e:a = b
  · subst e; simp
  · have h:¬ (Sum.inl a:Key) = Sum.inl b:=fun q=>e (Sum.inl.inj q)
    rw [decide_eq_false h]
    exact (beq_eq_false_iff_ne.mpr e).symm
theorem key_rr (a b:Str):decide ((Sum.inr a:Key) = Sum.inr b) = decide (a = b):=by
  by_cases e:a = b
  · subst e; simp
  · have h:¬ (Sum.inr a:Key) = Sum.inr b:=fun q=>e (Sum.inr.inj q)
    rw [decide_eq_false h,decide_eq_false e]
theorem key_lr (a:Int) (b:Str):decide ((Sum.inl a:Key) = Sum.inr b) = false:=decide_eq_false (fun q=>nomatch q)
theorem key_rl (a:Str) (b:Int):decide ((Sum.inr a:Key) = Sum.inl b) = false:=decide_eq_false (fun q=>nomatch q)
def mixKind (prog:Program) (w:World):PySem.KeyKind prog w Key where
  is:=keyIs
  hash:=keyH w
  inj:=fun v a b ha hb=>by
    rcases keyIs_shape ha with ⟨i,t,rfl,rfl⟩ | ⟨x,t,rfl,rfl⟩
    · rcases keyIs_shape hb with ⟨j,u,rfl,e⟩ | ⟨y,u,rfl,e⟩
      · injection e with e1 _; rw [e1]
      · exact nomatch e
    · rcases keyIs_shape hb with ⟨j,u,rfl,e⟩ | ⟨y,u,rfl,e⟩
      · exact nomatch e
      · injection e with e1 _; rw [e1]
  byValue:=fun k v h=>by
    rcases keyIs_shape h with ⟨i,t,rfl,rfl⟩ | ⟨x,t,rfl,rfl⟩ <;> rfl
  pyHash:=fun hv h=>by
    rcases keyIs_shape hv with ⟨i,t,rfl,rfl⟩ | ⟨x,t,rfl,rfl⟩
    · exact wpAny_pyHash_int h
    · exact wpAny_pyHash_str h
  eqBool:=fun hu hv h=>by
    rcases keyIs_shape hu with ⟨i,t,rfl,rfl⟩ | ⟨x,t,rfl,rfl⟩
    · rcases keyIs_shape hv with ⟨j,u,rfl,rfl⟩ | ⟨y,u,rfl,rfl⟩
      · rw [key_ll] at h; exact wpAny_eqBool_int h
      · rw [key_lr] at h; exact SeqAt.EqAt.int_str i t y u _ _ _ _ h
    · rcases keyIs_shape hv with ⟨j,u,rfl,rfl⟩ | ⟨y,u,rfl,rfl⟩
      · rw [key_rl] at h; exact SeqAt.EqAt.str_int x t j u _ _ _ _ h
      · rw [key_rr] at h; exact wpAny_eqBool_str h
  «strs»:=fun k x t v h=>by
    rcases keyIs_shape h with ⟨i,u,rfl,e⟩ | ⟨y,u,rfl,e⟩
    · exact nomatch e
    · injection e with e1 _
      subst e1
      cases v <;> rfl
end L2
namespace L2
open PySem PySem.Spec PyProof.Rows
inductive V where
  | non | bl (b:Bool) | int (i:Int) | str (x:Str) | byt (b:Array UInt8) | flt (b:UInt64) | ref (a:Addr) | ty (n:String)
  deriving DecidableEq
def RelV:V → Value → Prop
  | .non,u=>u = Value.none
  | .bl b,u=>u = Value.bool b
  | .int i,u=>∃ t,u = Value.int i t
  | .str x,u=>∃ t,u = Value.str x t
  | .byt b,u=>∃ t,u = Value.bytes b t
  | .flt b,u=>∃ t,u = Value.float b t
  | .ref a,u=>u = Value.ref a
  | .ty n,u=>u = Value.type n
abbrev Vals:List V → List Value → Prop:=Paired RelV
theorem Vals.length {xs:List V} {us:List Value} (r:Vals xs us):xs.length = us.length:=Paired.length r
theorem Vals.get:∀ {xs:List V} {us:List Value} {i:Nat} {x:V},Vals xs us → xs[i]? = some x → ∃ u,us[i]? = some u ∧ RelV x u
  | _,_,_,_,.nil,e=>by simp at e
  | _,_,0,_,.cons r _,e=>by simp at e; subst e; exact ⟨_,rfl,r⟩
  | _,_,i + 1,x,.cons _ t,e=>by
    obtain ⟨u,h1,h2⟩:=Vals.get (i:=i) (x:=x) t (by simpa using e)
    exact ⟨u,by simpa using h1,h2⟩
theorem Vals.set {x:V} {u:Value} (r:RelV x u):∀ {xs:List V} {us:List Value} (i:Nat),Vals xs us → Vals (xs.set i x) (us.set i u)
  | _,_,_,.nil=>.nil
  | _,_,0,.cons _ t=>.cons r t
  | _,_,i + 1,.cons q t=>.cons q (Vals.set r i t)
theorem Vals.append:∀ {xs ys:List V} {us ws:List Value},Vals xs us → Vals ys ws → Vals (xs ++ ys) (us ++ ws)
  | _,_,_,_,.nil,s=>s
  | _,_,_,_,.cons r t,s=>.cons r (Vals.append t s)
theorem Vals.take:∀ {xs:List V} {us:List Value} (n:Nat),Vals xs us → Vals (xs.take n) (us.take n)
  | _,_,0,_=>.nil
  | _,_,_ + 1,.nil=>.nil
  | _,_,n + 1,.cons r t=>.cons r (Vals.take n t)
def RelO:Option V → Option Value → Prop
  | some v,some u=>RelV v u
  | none,none=>True
  | _,_=>False
def KV {κ:Type}:List (κ × V) → List (κ × Value) → Prop:=Paired fun (p:κ × V) (q:κ × Value)=>p.1 = q.1 ∧ RelV p.2 q.2
def kV:Key → V
  | .inl i=>.int i
  | .inr x=>.str x
inductive HO where
    | lst (xs:List V)
    | tup (xs:List V)
    | dK (kvs:List (Key × V)) | dT (kvs:List (List Key × V))
    | set (S:Int → Bool) (n:Nat)
    | ins (C dx:Addr) (fs:List (Str × V))
    | own (x:Addr)
    | xd (fs:List (Str × V))
    | met (f x:Addr)
    | rng (lo hi:Int)
    | frz (o:Obj) (u:HO)
    | tbl (ps:Array Value)
    | ext (φ:Heap → Prop)
abbrev Hp:=Addr → Option HO
def upd (H:Hp) (a:Addr) (o:HO):Hp:=fun b=>if b = a then some o else H b
theorem upd_same {H:Hp} {a:Addr} {o:HO}:upd H a o a = some o:=by unfold upd; rw [if_pos rfl]
theorem upd_ne {H:Hp} {a b:Addr} {o:HO} (h:b ≠ a):upd H a o b = H b:=by unfold upd; rw [if_neg h]
theorem ne_of {H:Hp} {a b:Addr} {o u:HO} (h:H a = some o) (h':H b = some u) (d:o ≠ u):a ≠ b:=by
  intro e; subst e; rw [h] at h'; exact d (Option.some.inj h')
theorem ne_of_none {H:Hp} {a b:Addr} {o:HO} (h:H a = some o) (h':H b = none):a ≠ b:=by
  intro e; subst e; rw [h] at h'; cases h'
section
variable (P:Program) (w:World)
def ObjOk (H:Hp) (h:Heap) (a:Addr):HO → Prop
  | .lst xs=>xs.length ≤ sizeLine ∧ ∃ (its:List Value) (n:Nat),Vals xs its ∧ h.get? a = some { cls:=.type "list", data:=.seq its.toArray n }
  | .tup xs=>xs.length ≤ sizeLine ∧ ∃ its:List Value,Vals xs its ∧ IsTup h a its.toArray
  | .dK kvs=>kvs.length ≤ sizeLine ∧ (a == sysModules) = false ∧ ∃ vs,KV kvs vs ∧ h.DictOf (mixKind P w) a vs
  | .dT kvs=>kvs.length ≤ sizeLine ∧ (a == sysModules) = false ∧ ∃ xs:List (List Key × Addr × Value),
      Paired (fun (p:List Key × V) (q:List Key × Addr × Value)=>p.1 = q.1 ∧ H q.2.1 = some (.tup (p.1.map kV)) ∧ RelV p.2 q.2.2) kvs xs ∧
      ∃ o es ep,h.get? a = some o ∧ o.ExactDict ∧ o.data = .dict es ep ∧ es.toList = xs.map (entryOfKey (tupleKind (mixKind P w))) ∧ (xs.map (·.1)).Nodup
  | .set S n=>h.SetOf (intKind P w) a S n
  | .ins C dx fs=>H dx = some (.own a) ∧ fs.length ≤ 1000 ∧ dx ≠ a ∧ h.get? a = some (PySem.W.instObj C dx) ∧
      ∃ mA,h.Ns1 dx mA ∧ (∀ f,RelO (fs.lookup f) (mA f)) ∧ PySem.Within mA (fs.map (·.1))
  | .own _=>∃ o,h.get? a = some o
  | .xd fs=>∃ mA,h.Ns1 a mA ∧ ∀ f,RelO (fs.lookup f) (mA f)
  | .rng lo hi=>∃ t u v,h.get? a = some { cls:=.type "range", data:=.fields #[.int lo t,.int hi u,.int 1 v] }
  | .frz o u=>h.get? a = some o ∧ ObjOk H h a u
  | .tbl ps=>h.get? a = some { cls:=.none,data:=.fields ps }
  | .met f x=>h.get? a = some (PySem.W.methodObj (.ref f) (.ref x))
  | .ext φ=>φ h ∧ (∃ o,h.get? a = some o) ∧ ∀ h1 h2:Heap,φ h1 → (∀ o,h1.get? a = some o → h2.get? a = some o) → φ h2
def HOk (H:Hp) (h:Heap):Prop:=∀ a o,H a = some o → ObjOk P w H h a o
end
section
variable {P:Program} {w:World} {H H':Hp} {h h':Heap} {a:Addr} {o:HO}
theorem ObjOk.lt (x:ObjOk P w H h a o):a < h.objs.size:=by
  cases o with
  | lst xs=>obtain ⟨_,_,_,_,e⟩:=x; exact Heap.lt_size e
  | tup xs=>obtain ⟨_,_,_,p⟩:=x; exact p.lt
  | dK kvs=>obtain ⟨_,_,_,_,o,_,_,e,_⟩:=x; exact Heap.lt_size e
  | dT kvs=>obtain ⟨_,_,_,_,o,_,_,e,_⟩:=x; exact Heap.lt_size e
  | set S n=>obtain ⟨o,_,_,_,e,_⟩:=x; exact Heap.lt_size e
  | ins C dx fs=>obtain ⟨_,_,_,e,_⟩:=x; exact Heap.lt_size e
  | own y=>obtain ⟨_,e⟩:=x; exact Heap.lt_size e
  | xd fs=>obtain ⟨_,⟨_,_,_,e,_⟩,_⟩:=x; exact Heap.lt_size e
  | rng lo hi=>obtain ⟨_,_,_,e⟩:=x; exact Heap.lt_size e
  | frz ob u=>obtain ⟨e,_⟩:=x; exact Heap.lt_size e
  | tbl ps=>exact Heap.lt_size (show h.get? a = some _ from x)
  | met f y=>exact Heap.lt_size (show h.get? a = some _ from x)
  | ext φ=>obtain ⟨_,⟨_,e⟩,_⟩:=x; exact Heap.lt_size e
theorem Paired.mapP {α β:Type} {F G:α → β → Prop}:∀ {l₁:List α} {l₂:List β},Paired F l₁ l₂ → (∀ a b,F a b → G a b) → Paired G l₁ l₂
  | _,_,.nil,_=>.nil
  | _,_,.cons r t,f=>.cons (f _ _ r) (Paired.mapP t f)
theorem ObjOk.stay (x:ObjOk P w H h a o) (k:∀ b u,(b = a ∨ H b = some (.own a)) → h.get? b = some u → h'.get? b = some u)
    (ho:∀ b,H b = some (.own a) → H' b = some (.own a)) (ht:∀ b xs,H b = some (.tup xs) → H' b = some (.tup xs)):ObjOk P w H' h' a o:=by
  induction o with
  | lst xs=>obtain ⟨z,its,n,r,e⟩:=x; exact ⟨z,its,n,r,k _ _ (.inl rfl) e⟩
  | tup xs=>obtain ⟨z,its,r,ob,e,c⟩:=x; exact ⟨z,its,r,ob,k _ _ (.inl rfl) e,c⟩
  | dK kvs=>obtain ⟨z,y,vs,r,ob,es,ep,e,c⟩:=x; exact ⟨z,y,vs,r,ob,es,ep,k _ _ (.inl rfl) e,c⟩
  | dT kvs =>
    obtain ⟨z,y,xs,r,ob,es,ep,e,c⟩:=x
    exact ⟨z,y,xs,Paired.mapP r fun p q z=>⟨z.1,ht _ _ z.2.1,z.2.2⟩,ob,es,ep,k _ _ (.inl rfl) e,c⟩
  | set S n=>obtain ⟨ob,es,ep,t,e,c⟩:=x; exact ⟨ob,es,ep,t,k _ _ (.inl rfl) e,c⟩
  | ins C dx fs =>
    obtain ⟨d,z,ne,e,mA,⟨od,es,ep,e2,c⟩,r⟩:=x
    exact ⟨ho _ d,z,ne,k _ _ (.inl rfl) e,mA,⟨od,es,ep,k _ _ (.inr d) e2,c⟩,r⟩
  | own y=>obtain ⟨ob,e⟩:=x; exact ⟨ob,k _ _ (.inl rfl) e⟩
  | xd fs=>obtain ⟨mA,⟨od,es,ep,e,c⟩,r⟩:=x; exact ⟨mA,⟨od,es,ep,k _ _ (.inl rfl) e,c⟩,r⟩
  | rng lo hi=>obtain ⟨t,u,v,e⟩:=x; exact ⟨t,u,v,k _ _ (.inl rfl) e⟩
  | frz ob u ih=>obtain ⟨e,q⟩:=x; exact ⟨k _ _ (.inl rfl) e,ih q⟩
  | tbl ps =>
    have e:h.get? a = some { cls:=.none,data:=.fields ps }:=x
    show h'.get? a = some { cls:=.none,data:=.fields ps }
    exact k a _ (.inl rfl) e
  | met f y =>
    have e:h.get? a = some (PySem.W.methodObj (.ref f) (.ref y)):=x
    show h'.get? a = some (PySem.W.methodObj (.ref f) (.ref y))
    exact k a _ (.inl rfl) e
  | ext φ=>obtain ⟨p,⟨o,e⟩,st⟩:=x; exact ⟨st _ _ p fun o q=>k _ _ (.inl rfl) q,⟨o,k _ _ (.inl rfl) e⟩,st⟩
theorem HOk.lt (x:HOk P w H h) (e:H a = some o):a < h.objs.size:=(x a o e).lt
theorem HOk.fresh (x:HOk P w H h) (e:h.objs.size ≤ a):H a = none:=by
  cases q:H a with
  | none=>rfl
  | some u=>exact absurd (Nat.lt_of_lt_of_le (x.lt q) e) (Nat.lt_irrefl _)
theorem HOk.kept (x:HOk P w H h) (k:∀ b u,h.get? b = some u → h'.get? b = some u):HOk P w H h':=fun a o e =>
  (x a o e).stay (fun b u _ q=>k b u q) (fun _ q=>q) fun _ _ q=>q
theorem HOk.laid (x:HOk P w H h) (k:∀ b u,h.get? b = some u → h'.get? b = some u) (hp:h.objs.size ≤ a) (new:ObjOk P w (upd H a o) h' a o):HOk P w (upd H a o) h':=fun b u e=>by
  have hn:=x.fresh hp
  by_cases hb:b = a
  · subst hb; rw [upd_same] at e; cases e; exact new
  · rw [upd_ne hb] at e
    exact (x b u e).stay (fun c v _ q=>k c v q) (fun c q=>by rw [upd_ne (ne_of_none q hn)]; exact q) fun c xs q=>by rw [upd_ne (ne_of_none q hn)]; exact q
end
def Rd (H:Hp) (a:Addr) (u:HO):Prop:=H a = some u ∨ ∃ o,H a = some (.frz o u)
theorem Rd.of {H:Hp} {a:Addr} {u:HO} (h:H a = some u):Rd H a u:=.inl h
theorem Rd.ok {P:Program} {w:World} {H:Hp} {h:Heap} {a:Addr} {u:HO} (r:Rd H a u) (x:HOk P w H h):ObjOk P w H h a u:=by
  rcases r with r | ⟨o,r⟩
  · exact x a u r
  · obtain ⟨_,q⟩:=x a _ r
    exact q
def Mut:Option HO → Prop
  | some (.lst _)=>True
  | some (.dK _)=>True
  | some (.dT _)=>True
  | some (.set _ _)=>True
  | some (.ins _ _ _)=>True
  | some (.ext _)=>True
  | _=>False
section
variable {P:Program} {w:World} {H:Hp} {h h':Heap} {x e:Addr} {o':HO}
theorem HOk.write (ok:HOk P w H h) (mu:Mut (H x)) (he:e = x ∨ H e = some (.own x)) (k:∀ b u,b ≠ e → h.get? b = some u → h'.get? b = some u) (heo:∃ u,h'.get? e = some u)
    (new:ObjOk P w (upd H x o') h' x o'):HOk P w (upd H x o') h':=fun b u q=>by
  have nown:∀ c y,H c = some (.own y) → c ≠ x:=fun c y r z=>by subst z; rw [r] at mu; exact mu
  have ntup:∀ c xs,H c = some (.tup xs) → c ≠ x:=fun c xs r z=>by subst z; rw [r] at mu; exact mu
  by_cases hb:b = x
  · subst hb; rw [upd_same] at q; cases q; exact new
  · rw [upd_ne hb] at q
    by_cases hbe:b = e
    · have q':H b = some (.own x):=by
        rcases he with z | z
        · exact absurd (hbe.trans z) hb
        · rw [hbe]; exact z
      rw [q] at q'; cases q'
      obtain ⟨v,hv⟩:=heo
      exact ⟨v,by rw [hbe]; exact hv⟩
    · refine (ok b u q).stay (fun c v hc r=>k c v ?_ r) (fun c r=>by rw [upd_ne (nown c b r)]; exact r) fun c xs r=>by rw [upd_ne (ntup c xs r)]; exact r
      rcases hc with rfl | hc
      · exact hbe
      · rintro rfl
        rcases he with z | z
        · exact nown c b hc z
        · rw [hc] at z; cases z; exact hb rfl
end
structure Un (fs ex:List Addr) (H H':Hp) (h h':Heap):Prop where
  keep:∀ b o,h.get? b = some o → H b = none → b ∉ fs → b ∉ ex → h'.get? b = some o
  slot:∀ b o,h.get? b = some o → H b = none → b ∈ fs → b ∉ ex → ∃ sl,h'.get? b = some { o with slots:=sl }
  free:∀ b o,h.get? b = some o → H b = none → b ∉ ex → H' b = none
  there:∀ b o,h.get? b = some o → b ∉ ex → ∃ o',h'.get? b = some o'
  tups:∀ b xs,H b = some (.tup xs) → H' b = some (.tup xs)
  frzs:∀ b o u,H b = some (.frz o u) → H' b = some (.frz o u)
  tbls:∀ b ps,H b = some (.tbl ps) → ∃ more,H' b = some (.tbl (ps ++ more))
section
variable {fs fs' ex ex':List Addr} {H H1 H2:Hp} {h h1 h2 h':Heap} {a x e:Addr} {o:HO}
theorem Un.any (u:Un fs ex H H1 h h1) {b:Addr} {ob:Obj} (q:h.get? b = some ob) (n:H b = none) (hx:b ∉ ex):∃ sl,h1.get? b = some { ob with slots:=sl }:=by
  by_cases hb:b ∈ fs
  · exact u.slot b ob q n hb hx
  · exact ⟨ob.slots,u.keep b ob q n hb hx⟩
theorem Un.trans (a:Un fs ex H H1 h h1) (b:Un fs ex H1 H2 h1 h2):Un fs ex H H2 h h2 where
  keep:=fun c ob q n hc hx=>b.keep c ob (a.keep c ob q n hc hx) (a.free c ob q n hx) hc hx
  slot:=fun c ob q n hc hx=>by
    obtain ⟨sl,e1⟩:=a.slot c ob q n hc hx
    obtain ⟨sl',e2⟩:=b.slot c _ e1 (a.free c ob q n hx) hc hx
    exact ⟨sl',e2⟩
  free:=fun c ob q n hx=>by
    obtain ⟨o',e1⟩:=a.there c ob q hx
    exact b.free c o' e1 (a.free c ob q n hx) hx
  there:=fun c ob q hx=>by
    obtain ⟨o',e1⟩:=a.there c ob q hx
    exact b.there c o' e1 hx
  tups:=fun c xs q=>b.tups c xs (a.tups c xs q)
  frzs:=fun c ob xs q=>b.frzs c ob xs (a.frzs c ob xs q)
  tbls:=fun c ps q=>by
    obtain ⟨m1,e1⟩:=a.tbls c ps q
    obtain ⟨m2,e2⟩:=b.tbls c _ e1
    exact ⟨m1 ++ m2,by rw [e2,Array.append_assoc]⟩
theorem Un.kept (k:∀ b u,h.get? b = some u → h'.get? b = some u):Un fs ex H H h h' :=
  ⟨fun b ob q _ _ _=>k b ob q,fun b ob q _ _ _=>⟨ob.slots,k b ob q⟩,fun _ _ _ n _=>n,fun b ob q _=>⟨ob,k b ob q⟩,fun _ _ q=>q,fun _ _ _ q=>q,fun _ ps q=>⟨#[],by rw [q]; simp⟩⟩
theorem Un.refl:Un fs ex H H h h:=Un.kept fun _ _ q=>q
theorem Un.laid (k:∀ b u,h.get? b = some u → h'.get? b = some u) (hp:h.objs.size ≤ a) (hn:H a = none):Un fs ex H (upd H a o) h h' where
  keep:=fun b u q _ _ _=>k b u q
  slot:=fun b u q _ _ _=>⟨u.slots,k b u q⟩
  free:=fun b u q n _=>by rw [upd_ne (Nat.ne_of_lt (Nat.lt_of_lt_of_le (Heap.lt_size q) hp))]; exact n
  there:=fun b u q _=>⟨u,k b u q⟩
  tups:=fun b xs q=>by rw [upd_ne (ne_of_none q hn)]; exact q
  frzs:=fun b u xs q=>by rw [upd_ne (ne_of_none q hn)]; exact q
  tbls:=fun b ps q=>⟨#[],by rw [upd_ne (ne_of_none q hn),q]; simp⟩
theorem Un.write (mu:Mut (H x)) (he:e = x ∨ H e = some (.own x)) (k:∀ b u,b ≠ e → h.get? b = some u → h'.get? b = some u) (heo:∃ u,h'.get? e = some u):Un fs ex H (upd H x o) h h':=by
  have hx:∀ b,H b = none → b ≠ x:=fun b n z=>by subst z; rw [n] at mu; exact mu
  have hb:∀ b,H b = none → b ≠ e:=fun b n z=>by
    subst z
    rcases he with r | r
    · exact hx b n r
    · rw [n] at r; cases r
  have hm:∀ b u,H b = some u → ¬ Mut (some u) → b ≠ x:=fun b u q nm z=>by subst z; rw [q] at mu; exact nm mu
  refine ⟨fun b u q n _ _=>k b u (hb b n) q,fun b u q n _ _=>⟨u.slots,k b u (hb b n) q⟩,fun b u q n _=>by rw [upd_ne (hx b n)]; exact n,fun b u q _=>?_,
    fun b xs q=>by rw [upd_ne (hm b _ q fun z=>z)]; exact q,fun b u xs q=>by rw [upd_ne (hm b _ q fun z=>z)]; exact q,fun b ps q=>⟨#[],by rw [upd_ne (hm b _ q fun z=>z),q]; simp⟩⟩
  by_cases hbe:b = e
  · subst hbe; exact heo
  · exact ⟨u,k b u hbe q⟩
end
def trk (h:Heap) (H:Hp):List Addr:=(List.range h.objs.size).filter fun a=>(H a).isSome
def hidT (h:Heap) (H:Hp):Heap:=PySem.W.hideAll h (trk h H)
theorem hidT_size (h:Heap) (H:Hp):(hidT h H).objs.size = h.objs.size:=PySem.W.hideAll_size _ _
theorem hidT_get {h:Heap} {H:Hp} {b:Addr} {o:Obj} (e:h.get? b = some o) (n:H b = none):(hidT h H).get? b = some o :=
  PySem.W.hideAll_get _ e fun hm=>by
    have q:(H b).isSome = true:=(List.mem_filter.mp hm).2
    rw [n] at q; simp at q
theorem of_hidT {h:Heap} {H:Hp} {b:Addr} {o:Obj} (e:(hidT h H).get? b = some o):h.get? b = some o ∧ H b = none:=by
  have e':h.get? b = some o:=PySem.W.of_hideAll (trk h H) e
  refine ⟨e',?_⟩
  cases q:H b with
  | none=>rfl
  | some x =>
    have hm:b ∈ trk h H:=List.mem_filter.mpr ⟨List.mem_range.mpr (Heap.lt_size e'),by simp [q]⟩
    have z:(hidT h H).get? b = none:=PySem.W.hideAll_none (trk h H) hm
    rw [z] at e; cases e
def allNews (g h:Heap) (L:Addr):List (Addr × Obj):=(List.range h.objs.size).filterMap fun a=>if a = L ∨ (g.get? a).isSome = true then none else (h.get? a).map fun o=>(a,o)
def rest (g h:Heap) (L d:Addr):List (Addr × Obj):=(allNews g h L).filter fun p=>decide (p.1 ≠ d)
end L2
namespace L2
open PySem PySem.Spec PyProof.Rows
structure Mod (K:PySem.W.Frag) (mg:Str → Option Value) (base:Heap):Prop where
  kin:K.In base
  glob:base.Ns mainGlobals mg
  blt:∃ mb,base.Ns builtinsNs mb ∧ ∀ x:Str,x ≠ "__name__" → mb x = bootBuiltins x
  nolimit:base.NoLimit
structure Cx where
  prog:Program
  w:World
  K:PySem.W.Frag
  mg:Str → Option Value
  base:Heap
  A:Around
  N:List Str
  s₀:Shared
  H₀:Hp
  env:Env
  outer:List Env
  stack:List Env
  ex:List Addr
  fn:Str → Bool
  calm:Bool
  pn:List (Addr × Obj)
  xe:Value → Shared → Prop
def frs (l:List Env):List Addr:=l.filterMap (·.frame)
abbrev Cx.fs (X:Cx):List Addr:=frs X.outer
def Vis (sc:Scope) (x:Str):Prop:=sc.names.lookup x = some .local ∨ sc.names.lookup x = some .cell ∨ sc.names.lookup x = some .free
def Loc (sc:Scope) (x:Str):Prop:=sc.names.lookup x = some .local ∨ sc.names.lookup x = some .cell
def Look (env:Env) (h:Heap) (m:Str → Option Value) (x:Str) (u:Value):Prop :=
  (env.kindOf x = some .local ∧ m x = some u) ∨ ((env.kindOf x = some .cell ∨ env.kindOf x = some .free) ∧ ∃ c,env.cells.lookup x = some c ∧ h.IsCell c (some u))
structure Cx.Ok (X:Cx):Prop where
  mod:Mod X.K X.mg X.base
  kind:X.env.scope.kind = .function
  glob:X.env.globals = mainGlobals
  blt:X.env.builtins = builtinsNs
  above:X.s₀.heap.objs.size ≤ X.env.locals
  inj:∀ x y c,X.env.cells.lookup x = some c → X.env.cells.lookup y = some c → x = y
  has:∀ x,(X.env.kindOf x = some .cell ∨ X.env.kindOf x = some .free) → ∃ c,X.env.cells.lookup x = some c
  cab:∀ x c,X.fn x = true → X.env.cells.lookup x = some c → X.s₀.heap.objs.size ≤ c
  hd:X.calm = true → X.A.handled = none
  frames:X.A.frames = some X.stack
  stk:X.stack = X.outer ∨ (X.stack = X.env :: X.outer ∧ X.env.frame = some X.env.locals)
  exf:∀ b ∈ X.ex,b ≠ X.env.locals ∧ ∀ x c,X.env.cells.lookup x = some c → c ≠ b
  bs:∀ b o,X.base.get? b = some o → X.s₀.heap.get? b = some o ∧ X.H₀ b = none
  bsz:X.base.objs.size ≤ X.s₀.heap.objs.size
  noex:∀ b o,X.base.get? b = some o → b ∉ X.ex
  exfs:∀ b ∈ X.ex,b ∉ X.fs
  funs:X.s₀.heap.FunFrames X.base X.outer
  frf:∀ b ∈ X.fs,X.H₀ b = none
structure Inv (X:Cx) (pins:List (Addr × Obj)) (σ:List (Option V)) (H:Hp) (s:Shared):Prop where
  ok:X.Ok
  os:s.os = X.s₀.os
  bare:AllBare s.gens
  base:Un X.fs X.ex X.H₀ H X.s₀.heap s.heap
  loc:∃ m,s.heap.Ns X.env.locals m ∧ ∀ (i:Nat) (x:Str) (v:V),X.N[i]? = some x → σ[i]? = some (some v) → Vis X.env.scope x → ∃ u,RelV v u ∧ Look X.env s.heap m x u
  cell:∀ x c,X.env.cells.lookup x = some c → ∃ v,s.heap.IsCell c v
  free:H X.env.locals = none
  freeC:∀ x c,X.env.cells.lookup x = some c → H c = none
  pin:∀ p ∈ X.pn ++ pins,s.heap.get? p.1 = some p.2 ∧ H p.1 = none ∧ p.1 ≠ X.env.locals ∧ p.1 ∉ X.fs ∧ ∀ v,p.2.data ≠ .cell v
  hok:HOk X.prog X.w H s.heap
  len:σ.length = X.N.length
section
variable {X:Cx} {pins:List (Addr × Obj)} {σ:List (Option V)} {H H':Hp} {s:Shared} {h':Heap}
theorem Cx.Ok.nofr (ok:X.Ok) {b:Addr} {o:Obj} (e:X.base.get? b = some o):b ∉ X.fs:=fun hb=>by
  have:=(ok.funs.mem hb).1
  rw [e] at this; cases this
theorem Inv.bs (I:Inv X pins σ H s):∀ b o,X.base.get? b = some o → s.heap.get? b = some o ∧ H b = none:=fun b o e =>
  ⟨I.base.keep b o (I.ok.bs b o e).1 (I.ok.bs b o e).2 (I.ok.nofr e) (I.ok.noex b o e),I.base.free b o (I.ok.bs b o e).1 (I.ok.bs b o e).2 (I.ok.noex b o e)⟩
theorem Inv.bk (I:Inv X pins σ H s):∀ b o,X.base.get? b = some o → s.heap.get? b = some o:=fun b o e=>(I.bs b o e).1
theorem Inv.mod (I:Inv X pins σ H s):Mod X.K X.mg X.base:=I.ok.mod
theorem Inv.kIn (I:Inv X pins σ H s):X.K.In s.heap:=I.ok.mod.kin.keeps I.bk
theorem Inv.nolimit (I:Inv X pins σ H s):s.heap.NoLimit:=I.ok.mod.nolimit.keeps I.bk
theorem Inv.fr (I:Inv X pins σ H s):∃ m,Fr X.base X.env.locals s.heap m :=
  let ⟨m,hn,_⟩:=I.loc
  ⟨m,hn,I.bk,Nat.le_trans I.ok.bsz I.ok.above⟩
theorem Inv.lt (I:Inv X pins σ H s):X.env.locals < s.heap.objs.size:=let ⟨_,hn,_⟩:=I.loc; hn.lt
theorem Inv.sz (I:Inv X pins σ H s):X.s₀.heap.objs.size ≤ s.heap.objs.size:=Nat.le_trans I.ok.above (Nat.le_of_lt I.lt)
theorem Inv.nofs (I:Inv X pins σ H s) {a:Addr} (h:s.heap.objs.size ≤ a):a ∉ X.fs:=fun hb=>by
  obtain ⟨_,o,ho,_⟩:=I.ok.funs.mem hb
  exact absurd (Nat.lt_of_lt_of_le (Heap.lt_size ho) (Nat.le_trans I.sz h)) (Nat.lt_irrefl _)
theorem Inv.cne (I:Inv X pins σ H s):∀ x c,X.env.cells.lookup x = some c → c ≠ X.env.locals:=fun x c e z=>by
  obtain ⟨v,o,ho,hd⟩:=I.cell x c e
  obtain ⟨m,⟨o',es,ep,ho',hd',_⟩,_⟩:=I.loc
  rw [z,ho'] at ho; cases ho; rw [hd'] at hd; cases hd
theorem Inv.funs (I:Inv X pins σ H s):s.heap.FunFrames X.base X.outer:=by
  have all:∀ (l:List Env),(∀ b ∈ frs l,b ∈ X.fs) → X.s₀.heap.FunFrames X.base l → s.heap.FunFrames X.base l:=by
    intro l
    induction l with
    | nil=>intro _ _; trivial
    | cons env r ih =>
      intro hs hl
      obtain ⟨hk,⟨L,o,hf,hn,ho,hd⟩,hr⟩:=hl
      have hL:L ∈ X.fs:=hs L (by unfold frs; rw [List.filterMap_cons,hf]; exact List.mem_cons_self)
      obtain ⟨sl,e⟩:=I.base.slot L o ho (I.ok.frf L hL) hL fun z=>I.ok.exfs L z hL
      exact ⟨hk,⟨L,_,hf,hn,e,hd⟩,ih (fun b hb=>hs b (by unfold frs; rw [List.filterMap_cons,hf]; exact List.mem_cons_of_mem _ hb)) hr⟩
  exact all X.outer (fun _ hb=>hb) I.ok.funs
theorem Inv.stack (I:Inv X pins σ H s):s.heap.FunFrames X.base X.stack:=by
  rcases I.ok.stk with e | ⟨e,hf⟩
  · rw [e]; exact I.funs
  · rw [e]
    obtain ⟨m,hn,_⟩:=I.loc
    refine .cons (by rw [I.ok.kind]; decide) hf hn ?_ I.funs
    exact Heap.get?_none_of_le (Nat.le_trans I.ok.bsz I.ok.above)
theorem Inv.stkSub (I:Inv X pins σ H s):∀ b ∈ frs X.stack,b ∈ X.env.locals :: X.fs:=fun b hb=>by
  rcases I.ok.stk with e | ⟨e,hf⟩
  · rw [e] at hb; exact List.mem_cons_of_mem _ hb
  · rw [e] at hb
    unfold frs at hb
    rw [List.filterMap_cons,hf] at hb
    exact hb
theorem Inv.stkFree (I:Inv X pins σ H s):∀ b ∈ frs X.stack,H b = none:=fun b hb=>by
  rcases List.mem_cons.mp (I.stkSub b hb) with e | hb
  · rw [e]; exact I.free
  · obtain ⟨_,o,ho,_⟩:=I.ok.funs.mem hb
    exact I.base.free b o ho (I.ok.frf b hb) fun z=>I.ok.exfs b z hb
theorem Inv.step {g':Array GenState} {t':Nat} {d':Drawn} {ch:List Addr} (I:Inv X pins σ H s)
    (hch:∀ b ∈ ch,(b ∈ X.ex ∨ X.s₀.heap.objs.size ≤ b) ∧ b ≠ X.env.locals ∧ (∀ x c,X.env.cells.lookup x = some c → c ≠ b) ∧ ∀ p ∈ X.pn ++ pins,p.1 ≠ b)
    (keep:∀ b o,b ≠ X.env.locals → b ∉ X.fs → b ∉ ch → s.heap.get? b = some o → H b = none → h'.get? b = some o)
    (slot:∀ b o,b ≠ X.env.locals → b ∈ X.fs → b ∉ ch → s.heap.get? b = some o → H b = none → ∃ sl,h'.get? b = some { o with slots:=sl }) (free:∀ b o,b ∉ ch → s.heap.get? b = some o → H b = none → H' b = none)
    (there:∀ b o,b ∉ ch → s.heap.get? b = some o → ∃ o',h'.get? b = some o')
    (tups:∀ b xs,H b = some (.tup xs) → H' b = some (.tup xs)) (frzs:∀ b o u,H b = some (.frz o u) → H' b = some (.frz o u)) (tbls:∀ b ps,H b = some (.tbl ps) → ∃ more,H' b = some (.tbl (ps ++ more)))
    (ns:∀ m,s.heap.Ns X.env.locals m → h'.Ns X.env.locals m) (hok:HOk X.prog X.w H' h') (hg:AllBare g') :
    Inv X pins σ H' { s with heap:=h',gens:=g',drawn:=d',toks:=t' }:=by
  have neL:∀ b o,X.s₀.heap.get? b = some o → b ≠ X.env.locals:=fun b o e=>Nat.ne_of_lt (Nat.lt_of_lt_of_le (Heap.lt_size e) I.ok.above)
  have neC:∀ b o,X.s₀.heap.get? b = some o → b ∉ X.ex → b ∉ ch:=fun b o e hx hb=>by
    rcases (hch b hb).1 with z | z
    · exact hx z
    · exact absurd (Nat.lt_of_lt_of_le (Heap.lt_size e) z) (Nat.lt_irrefl _)
  have cellK:∀ x c,X.env.cells.lookup x = some c → ∀ v,s.heap.IsCell c v → h'.IsCell c v:=fun x c e v ⟨o,ho,hd⟩=>by
    have nch:c ∉ ch:=fun z=>(hch c z).2.2.1 x c e rfl
    by_cases hc:c ∈ X.fs
    · obtain ⟨sl,q⟩:=slot c o (I.cne x c e) hc nch ho (I.freeC x c e)
      exact ⟨_,q,hd⟩
    · exact ⟨o,keep c o (I.cne x c e) hc nch ho (I.freeC x c e),hd⟩
  refine ⟨I.ok,I.os,hg,⟨fun b o e n hb hx=>?_,fun b o e n hb hx=>?_,fun b o e n hx=>?_,fun b o e hx=>?_,fun b xs e=>tups b xs (I.base.tups b xs e),fun b o xs e=>frzs b o xs (I.base.frzs b o xs e),fun b ps e=>?_⟩,?_,fun x c e=>?_,?_,fun x c e=>?_,fun p hp=>?_,hok,I.len⟩
  · exact keep b o (neL b o e) hb (neC b o e hx) (I.base.keep b o e n hb hx) (I.base.free b o e n hx)
  · obtain ⟨sl,e1⟩:=I.base.slot b o e n hb hx
    obtain ⟨sl',e2⟩:=slot b _ (neL b o e) hb (neC b o e hx) e1 (I.base.free b o e n hx)
    exact ⟨sl',e2⟩
  · obtain ⟨o',e1⟩:=I.base.there b o e hx
    exact free b o' (neC b o e hx) e1 (I.base.free b o e n hx)
  · obtain ⟨o',e1⟩:=I.base.there b o e hx
    exact there b o' (neC b o e hx) e1
  · obtain ⟨m1,e1⟩:=I.base.tbls b ps e
    obtain ⟨m2,e2⟩:=tbls b _ e1
    exact ⟨m1 ++ m2,by rw [e2,Array.append_assoc]⟩
  · obtain ⟨m,hn,hl⟩:=I.loc
    refine ⟨m,ns m hn,fun i x v e1 e2 e3=>?_⟩
    obtain ⟨u,r,l⟩:=hl i x v e1 e2 e3
    refine ⟨u,r,?_⟩
    rcases l with l | ⟨k,c,e,z⟩
    · exact .inl l
    · exact .inr ⟨k,c,e,cellK x c e _ z⟩
  · obtain ⟨v,z⟩:=I.cell x c e
    exact ⟨v,cellK x c e v z⟩
  · obtain ⟨m,⟨o,_,_,ho,_⟩,_⟩:=I.loc
    exact free _ o (fun z=>(hch _ z).2.1 rfl) ho I.free
  · obtain ⟨v,o,ho,hd⟩:=I.cell x c e
    exact free c o (fun z=>(hch c z).2.2.1 x c e rfl) ho (I.freeC x c e)
  · obtain ⟨e,n,ne,nf,d⟩:=I.pin p hp
    have nch:p.1 ∉ ch:=fun z=>(hch p.1 z).2.2.2 p hp rfl
    exact ⟨keep p.1 p.2 ne nf nch e n,free p.1 p.2 nch e n,ne,nf,d⟩
theorem Inv.un {t':Nat} (I:Inv X pins σ H s) (u:Un X.fs [] H H' s.heap h') (hok:HOk X.prog X.w H' h'):Inv X pins σ H' { s with heap:=h',toks:=t' }:=by
  obtain ⟨m,⟨o,es,ep,ho,r⟩,_⟩:=id I.loc
  obtain ⟨sl,hL⟩:=u.any ho I.free (by simp)
  exact I.step (g':=s.gens) (d':=s.drawn) (ch:=[]) (fun _ z=>nomatch z) (fun b o _ hb _ e n=>u.keep b o e n hb (by simp)) (fun b o _ hb _ e n=>u.slot b o e n hb (by simp)) (fun b o _ e n=>u.free b o e n (by simp)) (fun b o _ e=>u.there b o e (by simp)) u.tups u.frzs u.tbls (fun m' hm=>by
    obtain ⟨o',es',ep',ho',r'⟩:=hm
    rw [ho] at ho'; cases ho'
    exact ⟨_,es',ep',hL,r'⟩) hok I.bare
theorem Inv.call {g':Array GenState} {t':Nat} {d':Drawn} {ch:List Addr} (I:Inv X pins σ H s) (u:Un (frs X.stack) ch H H' s.heap h') (hok:HOk X.prog X.w H' h') (hg:AllBare g')
    (hch:∀ b ∈ ch,(b ∈ X.ex ∨ X.s₀.heap.objs.size ≤ b) ∧ b ≠ X.env.locals ∧ (∀ x c,X.env.cells.lookup x = some c → c ≠ b) ∧ ∀ p ∈ X.pn ++ pins,p.1 ≠ b) :
    Inv X pins σ H' { s with heap:=h',gens:=g',drawn:=d',toks:=t' }:=by
  obtain ⟨m,⟨o,es,ep,ho,r⟩,_⟩:=id I.loc
  obtain ⟨sl,hL⟩:=u.any ho I.free fun z=>(hch _ z).2.1 rfl
  exact I.step (ch:=ch) hch (fun b o hL hb hc e n=>u.keep b o e n (fun z=>(List.mem_cons.mp (I.stkSub b z)).elim hL hb) hc) (fun b o _ _ hc e n=>u.any e n hc) (fun b o hc e n=>u.free b o e n hc) (fun b o hc e=>u.there b o e hc) u.tups u.frzs u.tbls (fun m' hm=>by
    obtain ⟨o',es',ep',ho',r'⟩:=hm
    rw [ho] at ho'; cases ho'
    exact ⟨_,es',ep',hL,r'⟩) hok hg
theorem Inv.turned {t':Nat} {it:Addr} (I:Inv X pins σ H s) (k:∀ b o,b ≠ it → s.heap.get? b = some o → h'.get? b = some o) (hn:H it = none) (hL:it ≠ X.env.locals)
    (h1:it ∈ X.ex ∨ X.s₀.heap.objs.size ≤ it) (h2:∀ x c,X.env.cells.lookup x = some c → c ≠ it) (h3:∀ p ∈ X.pn ++ pins,p.1 ≠ it):Inv X pins σ H { s with heap:=h',toks:=t' }:=by
  have nit:∀ b u,H b = some u → b ≠ it:=fun b u e z=>by rw [z,hn] at e; cases e
  refine I.step (g':=s.gens) (d':=s.drawn) (ch:=[it]) (fun b hb=>?_) (fun b o _ _ hc e _=>k b o (fun z=>hc (by simp [z])) e) (fun b o _ _ hc e _=>⟨o.slots,k b o (fun z=>hc (by simp [z])) e⟩) (fun _ _ _ _ n=>n)
    (fun b o hc e=>⟨o,k b o (fun z=>hc (by simp [z])) e⟩) (fun _ _ e=>e) (fun _ _ _ e=>e) (fun b ps e=>⟨#[],by rw [e]; simp⟩) (fun m hm=>?_) (fun b u e=>?_) I.bare
  · have e:b = it:=by simpa using hb
    subst e
    exact ⟨h1,hL,h2,h3⟩
  · obtain ⟨o,es,ep,ho,r⟩:=hm
    exact ⟨o,es,ep,k _ o (Ne.symm hL) ho,r⟩
  · refine (I.hok b u e).stay (fun c v hc q=>k c v ?_ q) (fun _ q=>q) fun _ _ q=>q
    rcases hc with z | z
    · rw [z]; exact nit b u e
    · exact nit c _ z
theorem Inv.tok (I:Inv X pins σ H s) (t:Nat):Inv X pins σ H { s with toks:=t }:=I.un (h':=s.heap) (t':=t) Un.refl I.hok
theorem Inv.kept {t':Nat} (I:Inv X pins σ H s) (k:∀ b u,s.heap.get? b = some u → h'.get? b = some u):Inv X pins σ H { s with heap:=h',toks:=t' }:=I.un (Un.kept k) (I.hok.kept k)
theorem Inv.laid {a:Addr} {o:HO} {t':Nat} (I:Inv X pins σ H s) (k:∀ b u,s.heap.get? b = some u → h'.get? b = some u) (hp:s.heap.objs.size ≤ a) (new:ObjOk X.prog X.w (upd H a o) h' a o) :
    Inv X pins σ (upd H a o) { s with heap:=h',toks:=t' }:=I.un (Un.laid k hp (I.hok.fresh hp)) (I.hok.laid k hp new)
theorem Inv.write {x e:Addr} {o:HO} {t':Nat} (I:Inv X pins σ H s) (mu:Mut (H x)) (he:e = x ∨ H e = some (.own x)) (k:∀ b u,b ≠ e → s.heap.get? b = some u → h'.get? b = some u) (heo:∃ u,h'.get? e = some u)
    (new:ObjOk X.prog X.w (upd H x o) h' x o):Inv X pins σ (upd H x o) { s with heap:=h',toks:=t' }:=I.un (Un.write mu he k heo) (I.hok.write mu he k heo new)
theorem Inv.weak {σ':List (Option V)} (I:Inv X pins σ H s) (hl:σ'.length = σ.length) (w:∀ (i:Nat) v,σ'[i]? = some (some v) → σ[i]? = some (some v)):Inv X pins σ' H s :=
  ⟨I.ok,I.os,I.bare,I.base,let ⟨m,hn,hl'⟩:=I.loc; ⟨m,hn,fun i x v e1 e2 e3=>hl' i x v e1 (w i v e2) e3⟩,I.cell,I.free,I.freeC,I.pin,I.hok,hl.trans I.len⟩
theorem Inv.pins_of {pins':List (Addr × Obj)} (I:Inv X pins σ H s) (h:∀ p ∈ pins',s.heap.get? p.1 = some p.2 ∧ H p.1 = none ∧ p.1 ≠ X.env.locals ∧ p.1 ∉ X.fs ∧ ∀ v,p.2.data ≠ .cell v):Inv X pins' σ H s :=
  ⟨I.ok,I.os,I.bare,I.base,I.loc,I.cell,I.free,I.freeC,fun p hp=>(List.mem_append.mp hp).elim (fun z=>I.pin p (List.mem_append_left _ z)) (h p),I.hok,I.len⟩
theorem nodup_ix {N:List Str} (hN:N.Nodup) {i j:Nat} {x:Str} (a:N[i]? = some x) (b:N[j]? = some x):i = j:=by
  obtain ⟨h1,e1⟩:=List.getElem?_eq_some_iff.mp a
  obtain ⟨h2,e2⟩:=List.getElem?_eq_some_iff.mp b
  exact (List.getElem_inj hN).mp (e1.trans e2.symm)
theorem store_ok2 {M:Model} {A:Around} {E:Value → Shared → Prop} {i:Nat} {x:Str} {v:V} {u:Value} {Q:Unit → Shared → Prop} (I:Inv X pins σ H s) (hN:X.N.Nodup) (hi:X.N[i]? = some x) (hx:Loc X.env.scope x) (r:RelV v u)
    (h:∀ s',Inv X pins (σ.set i (some v)) H s' → (∃ a,Heap.SameBut a s.heap s'.heap ∧ (a = X.env.locals ∨ X.env.cells.lookup x = some a)) → Q () s') (hf:X.fn x = true ∨ X.env.scope.names.lookup x = some .local:=by first | exact .inl rfl | exact .inr rfl | assumption):wpAny M A (storeName X.env x u) Q E s:=by
  obtain ⟨m,hn,hl⟩:=id I.loc
  have hcls:(X.env.scope.kind == .class || (X.env.scope.kind == .module && X.env.locals != X.env.globals)) = false:=by rw [I.ok.kind]; rfl
  have hiσ:i < σ.length:=by rw [I.len]; exact (List.getElem?_eq_some_iff.mp hi).1
  have cne:=I.cne
  have tracked:∀ {a:Addr} {h':Heap},(∃ o,s.heap.get? a = some o ∧ H a = none) → Heap.SameBut a s.heap h' → HOk X.prog X.w H h':=fun {a h'} ha hs b ob e=>by
    obtain ⟨_,_,hfree⟩:=ha
    refine (I.hok b ob e).stay (fun c w' hc q=>(hs.2 c ?_).trans q) (fun _ q=>q) fun _ _ q=>q
    rintro rfl
    rcases hc with rfl | hc
    · rw [hfree] at e; cases e
    · rw [hfree] at hc; cases hc
  rcases hx with hk | hk
  · refine wpAny_storeName_local hk hn (fun h' hn' hs=>?_) hcls
    obtain ⟨oL,_,_,hoL,_⟩:=id hn
    refine h _ ⟨I.ok,I.os,I.bare,⟨fun b o e n hb hx=>?_,fun b o e n hb hx=>?_,I.base.free,fun b o e hx=>?_,I.base.tups,I.base.frzs,I.base.tbls⟩,⟨_,hn',fun j y v' e1 e2 e3=>?_⟩,fun y c e=>?_,I.free,I.freeC,fun p hp=>?_,tracked ⟨oL,hoL,I.free⟩ hs,by simpa using I.len⟩ ⟨_,hs,.inl rfl⟩
    · exact (hs.2 b (Nat.ne_of_lt (Nat.lt_of_lt_of_le (Heap.lt_size e) I.ok.above))).trans (I.base.keep b o e n hb hx)
    · obtain ⟨sl,e1⟩:=I.base.slot b o e n hb hx
      exact ⟨sl,(hs.2 b (Nat.ne_of_lt (Nat.lt_of_lt_of_le (Heap.lt_size e) I.ok.above))).trans e1⟩
    · obtain ⟨o',e1⟩:=I.base.there b o e hx
      exact ⟨o',(hs.2 b (Nat.ne_of_lt (Nat.lt_of_lt_of_le (Heap.lt_size e) I.ok.above))).trans e1⟩
    · by_cases hj:j = i
      · subst hj
        rw [hi] at e1; cases e1
        rw [List.getElem?_set_self hiσ] at e2
        cases e2
        exact ⟨u,r,.inl ⟨hk,by simp⟩⟩
      · rw [List.getElem?_set_ne (Ne.symm hj)] at e2
        obtain ⟨u',r',q⟩:=hl j y v' e1 e2 e3
        refine ⟨u',r',?_⟩
        rcases q with ⟨k,e⟩ | ⟨k,c,e,z⟩
        · refine .inl ⟨k,?_⟩
          have:y ≠ x:=fun e=>hj (nodup_ix hN e1 (e ▸ hi))
          simp [this,e]
        · exact .inr ⟨k,c,e,z.sameBut hs (cne y c e)⟩
    · obtain ⟨w',z⟩:=I.cell y c e
      exact ⟨w',z.sameBut hs (cne y c e)⟩
    · obtain ⟨e,n,ne,nf,d⟩:=I.pin p hp
      exact ⟨(hs.2 p.1 ne).trans e,n,ne,nf,d⟩
  · have hfn:X.fn x = true:=by
      rcases hf with z | z
      · exact z
      · rw [z] at hk; cases hk
    obtain ⟨c,hc⟩:=I.ok.has x (.inl hk)
    obtain ⟨w',z⟩:=I.cell x c hc
    refine wpAny_storeName_cell I.ok.kind hk hc z (fun h' hc' hs=>?_)
    obtain ⟨oc,hoc,hocd⟩:=id z
    refine h { s with heap:=h' } ⟨I.ok,I.os,I.bare,⟨fun b o e n hb hx=>?_,fun b o e n hb hx=>?_,I.base.free,fun b o e hx=>?_,I.base.tups,I.base.frzs,I.base.tbls⟩,⟨m,hn.sameBut hs (Ne.symm (cne x c hc)),fun j y v' e1 e2 e3=>?_⟩,fun y c' e=>?_,I.free,I.freeC,fun p hp=>?_,tracked ⟨oc,hoc,I.freeC x c hc⟩ hs,by simpa using I.len⟩ ⟨c,hs,.inr hc⟩
    · exact (hs.2 b (Nat.ne_of_lt (Nat.lt_of_lt_of_le (Heap.lt_size e) (I.ok.cab x c hfn hc)))).trans (I.base.keep b o e n hb hx)
    · obtain ⟨sl,e1⟩:=I.base.slot b o e n hb hx
      exact ⟨sl,(hs.2 b (Nat.ne_of_lt (Nat.lt_of_lt_of_le (Heap.lt_size e) (I.ok.cab x c hfn hc)))).trans e1⟩
    · obtain ⟨o',e1⟩:=I.base.there b o e hx
      exact ⟨o',(hs.2 b (Nat.ne_of_lt (Nat.lt_of_lt_of_le (Heap.lt_size e) (I.ok.cab x c hfn hc)))).trans e1⟩
    · by_cases hj:j = i
      · subst hj
        rw [hi] at e1; cases e1
        rw [List.getElem?_set_self hiσ] at e2
        cases e2
        exact ⟨u,r,.inr ⟨.inl hk,c,hc,hc'⟩⟩
      · rw [List.getElem?_set_ne (Ne.symm hj)] at e2
        obtain ⟨u',r',q⟩:=hl j y v' e1 e2 e3
        refine ⟨u',r',?_⟩
        rcases q with q | ⟨k,c',e,z'⟩
        · exact .inl q
        · refine .inr ⟨k,c',e,z'.sameBut hs ?_⟩
          rintro rfl
          exact hj (nodup_ix hN e1 (I.ok.inj _ _ _ e hc ▸ hi))
    · by_cases hcc:c' = c
      · subst hcc; exact ⟨_,hc'⟩
      · obtain ⟨w2,z2⟩:=I.cell y c' e
        exact ⟨w2,z2.sameBut hs hcc⟩
    · obtain ⟨e,n,ne,nf,d⟩:=I.pin p hp
      refine ⟨(hs.2 p.1 ?_).trans e,n,ne,nf,d⟩
      intro q
      rw [q,hoc] at e
      have q':oc = p.2:=Option.some.inj e
      exact d w' (by rw [← q']; exact hocd)
theorem store_ok {M:Model} {A:Around} {E:Value → Shared → Prop} {i:Nat} {x:Str} {v:V} {u:Value} {Q:Unit → Shared → Prop} (I:Inv X pins σ H s) (hN:X.N.Nodup) (hi:X.N[i]? = some x) (hx:Loc X.env.scope x) (r:RelV v u)
    (h:∀ s',Inv X pins (σ.set i (some v)) H s' → Q () s') (hf:X.fn x = true ∨ X.env.scope.names.lookup x = some .local:=by first | exact .inl rfl | exact .inr rfl | assumption):wpAny M A (storeName X.env x u) Q E s :=
  store_ok2 I hN hi hx r (fun s' I' _=>h s' I') hf
theorem Inv.call' {s':Shared} {ch:List Addr} (I:Inv X pins σ H s) (ho:s'.os = s.os) (u:Un (frs X.stack) ch H H' s.heap s'.heap) (hok:HOk X.prog X.w H' s'.heap) (hg:AllBare s'.gens)
    (hch:∀ b ∈ ch,(b ∈ X.ex ∨ X.s₀.heap.objs.size ≤ b) ∧ b ≠ X.env.locals ∧ (∀ x c,X.env.cells.lookup x = some c → c ≠ b) ∧ ∀ p ∈ X.pn ++ pins,p.1 ≠ b):Inv X pins σ H' s':=by
  obtain ⟨h',g',d',t',o'⟩:=s'
  have e:o' = s.os:=ho
  subst e
  exact I.call (g':=g') (t':=t') (d':=d') u hok hg hch
end
abbrev XK:=Value → Option Addr → Hp → Prop
abbrev St:=List (Option V)
abbrev VK:=V → Hp → Prop
abbrev TE:=St → Hp → VK → Prop
abbrev TT:=St → Hp → (Bool → Hp → Prop) → Prop
abbrev TA:=St → Hp → (List V → Hp → Prop) → Prop
structure Ends where
  nx:St → Hp → Prop
  rt:VK
  bk:St → Hp → Prop:=fun _ _=>False
  ct:St → Hp → Prop:=fun _ _=>False
abbrev TS:=Ends → St → Hp → Prop
def EP (X:Cx) (pins:List (Addr × Obj)) (σ:St) (Q:VK) (u:Value) (s':Shared):Prop:=∃ v H',Inv X pins σ H' s' ∧ RelV v u ∧ Q v H'
def TP (X:Cx) (pins:List (Addr × Obj)) (σ:St) (Q:Bool → Hp → Prop) (b:Bool) (s':Shared):Prop:=∃ H',Inv X pins σ H' s' ∧ Q b H'
def AP (X:Cx) (pins:List (Addr × Obj)) (σ:St) (Q:List V → Hp → Prop) (us:List Value) (s':Shared):Prop:=∃ vs H',Inv X pins σ H' s' ∧ Vals vs us ∧ Q vs H'
def SP (X:Cx) (pins:List (Addr × Obj)) (D:Ends) (f:Flow) (s':Shared):Prop :=
  match f with
  | .next=>∃ σ' H',Inv X pins σ' H' s' ∧ D.nx σ' H'
  | .brk=>∃ σ' H',Inv X pins σ' H' s' ∧ D.bk σ' H'
  | .cont=>∃ σ' H',Inv X pins σ' H' s' ∧ D.ct σ' H'
  | .ret u=>∃ v σ' H',Inv X pins σ' H' s' ∧ RelV v u ∧ D.rt v H'
def PE (X:Cx) (e:Expr) (t:TE):Prop :=
  ∀ (pins:List (Addr × Obj)) (s:Shared) (σ:St) (H:Hp) (Q:VK),Inv X pins σ H s → t σ H Q → wpAny (model X.prog X.w) X.A (eval e X.env) (EP X pins σ Q) X.xe s
def PT (X:Cx) (e:Expr) (t:TT):Prop :=
  ∀ (pins:List (Addr × Obj)) (s:Shared) (σ:St) (H:Hp) (Q:Bool → Hp → Prop),Inv X pins σ H s → t σ H Q → wpAny (model X.prog X.w) X.A (isTrue e X.env (eval e X.env)) (TP X pins σ Q) X.xe s
def PW (X:Cx) (e:Expr) (t:TT):Prop :=
  ∀ (whole:Sem Value) (pins:List (Addr × Obj)) (s:Shared) (σ:St) (H:Hp) (Q:Bool → Hp → Prop),Inv X pins σ H s → t σ H Q → wpAny (model X.prog X.w) X.A (isTrue e X.env whole) (TP X pins σ Q) X.xe s
theorem PW.pt {X:Cx} {e:Expr} {t:TT} (h:PW X e t):PT X e t:=h _
def PA (X:Cx) (es:List Expr) (t:TA):Prop :=
  ∀ (pos:Pos) (pins:List (Addr × Obj)) (s:Shared) (σ:St) (H:Hp) (Q:List V → Hp → Prop),Inv X pins σ H s → t σ H Q → wpAny (model X.prog X.w) X.A (spliced (backTo pos (starEach es X.env))) (AP X pins σ Q) X.xe s
def PS (X:Cx) (st:Stmt) (t:TS):Prop :=
  ∀ (pins:List (Addr × Obj)) (s:Shared) (σ:St) (H:Hp) (D:Ends),Inv X pins σ H s → t D σ H → wpAny (model X.prog X.w) X.A (exec st X.env) (SP X pins D) X.xe s
def PSs (X:Cx) (st:List Stmt) (t:TS):Prop :=
  ∀ (pins:List (Addr × Obj)) (s:Shared) (σ:St) (H:Hp) (D:Ends),Inv X pins σ H s → t D σ H → wpAny (model X.prog X.w) X.A (execs st X.env) (SP X pins D) X.xe s
theorem thn {α:Type} {t:Sem α} {Q Q':α → Shared → Prop} {M:Model} {A:Around} {E:Value → Shared → Prop} {s:Shared} (h:wpAny M A t Q E s) (hQ:∀ a s,Q a s → Q' a s):wpAny M A t Q' E s:=wpAny_mono h hQ fun _ _ x=>x
end L2
namespace L2
open PySem PySem.Spec PyProof.Rows
section
variable {X:Cx}
def tVar (i:Nat):TE:=fun σ H Q=>∃ v,σ[i]? = some (some v) ∧ Q v H
def tC (v:V):TE:=fun _ H Q=>Q v H
theorem pe_var {i:Nat} {x:Str} {pos:Pos} (hN:X.N[i]? = some x) (hv:Vis X.env.scope x) (hd:(x == ("__debug__" : Str)) = false:=by decide) (hcd:(x == ("__classdict__" : Str)) = false:=by decide):PE X (.Name x pos) (tVar i):=by
  intro pins s σ H Q I h
  obtain ⟨v,e,h⟩:=h
  obtain ⟨m,hn,hl⟩:=I.loc
  obtain ⟨u,r,l⟩:=hl i x v hN e hv
  have fin:EP X pins σ Q u s:=⟨v,H,I,r,h⟩
  rcases l with ⟨hk,hm⟩ | ⟨hk,c,hc,hcell⟩
  · exact wpAny_Name (wpAny_loadName_local I.ok.kind hk hn hm fin) hd
  · rcases hk with hk | hk
    · exact wpAny_Name (wpAny_loadName_cell I.ok.kind hk hc hcell fin) hd
    · exact wpAny_Name (wpAny_loadName_free I.ok.kind hk hc hcell fin hcd) hd
theorem pe_int {i j pos}:PE X (.Constant (.int i) j pos) (tC (.int i)):=fun _ _ _ H _ I h=>wpAny_Constant_int ⟨.int i,H,I.tok _,⟨_,rfl⟩,h⟩
theorem pe_bl {b j pos}:PE X (.Constant (.bool b) j pos) (tC (.bl b)):=fun _ _ _ H _ I h=>Constant_bool ⟨.bl b,H,I,rfl,h⟩
theorem pe_non {j pos}:PE X (.Constant .none j pos) (tC .non):=fun _ _ _ H _ I h=>Constant_none ⟨.non,H,I,rfl,h⟩
theorem pe_str {x j pos}:PE X (.Constant (.str x) j pos) (tC (.str x)):=fun _ _ _ H _ I h=>Calls.Constant_str ⟨.str x,H,I.tok _,⟨_,rfl⟩,h⟩
def Gl (X:Cx) (x:Str):Prop:=X.env.kindOf x = some .globalImplicit
theorem ld_glob {E:Value → Shared → Prop} {pins:List (Addr × Obj)} {s:Shared} {σ:St} {H:Hp} {x:Str} {u:Value} {pos:Pos} {Q:Value → Shared → Prop} (I:Inv X pins σ H s) (hg:Gl X x) (hm:X.mg x = some u) (h:Q u s)
    (hd:(x == ("__debug__" : Str)) = false:=by decide):wpAny (model X.prog X.w) X.A (eval (.Name x pos) X.env) Q E s :=
  Calls.Name_function_global I.ok.kind hg (Calls.loadGlobal_global (by rw [I.ok.glob]; exact I.mod.glob.keeps I.bk) hm h) hd
theorem ld_blt {E:Value → Shared → Prop} {pins:List (Addr × Obj)} {s:Shared} {σ:St} {H:Hp} {x:Str} {u:Value} {pos:Pos} {Q:Value → Shared → Prop} (I:Inv X pins σ H s) (hg:Gl X x) (hm:X.mg x = none) (hv:bootBuiltins x = some u) (h:Q u s)
    (hn:x ≠ "__name__" := by decide) (hd:(x == ("__debug__" : Str)) = false:=by decide):wpAny (model X.prog X.w) X.A (eval (.Name x pos) X.env) Q E s:=by
  obtain ⟨mb,h1,h2⟩:=I.mod.blt
  exact Calls.Name_function_global I.ok.kind hg (Calls.loadGlobal_builtin (by rw [I.ok.glob]; exact I.mod.glob.keeps I.bk) hm (by rw [I.ok.blt]; exact h1.keeps I.bk) ((h2 x hn).trans hv) h) hd
theorem pe_glob {x:Str} {v:V} {u:Value} {pos:Pos} (hg:Gl X x) (hm:X.mg x = some u) (r:RelV v u) (hd:(x == ("__debug__" : Str)) = false:=by decide):PE X (.Name x pos) (tC v) :=
  fun _ _ _ H _ I h=>ld_glob I hg hm ⟨v,H,I,r,h⟩ hd
theorem pe_bltn {x:Str} {v:V} {u:Value} {pos:Pos} (hg:Gl X x) (hm:X.mg x = none) (hv:bootBuiltins x = some u) (r:RelV v u) (hn:x ≠ "__name__" := by decide) (hd:(x == ("__debug__" : Str)) = false:=by decide):PE X (.Name x pos) (tC v) :=
  fun _ _ _ H _ I h=>ld_blt I hg hm hv ⟨v,H,I,r,h⟩ hn hd
variable {a b:Expr} {ta tb:TE} {pos:Pos}
def tB (t:TE):TT:=fun σ H Q=>t σ H fun x H1=>∃ c,x = .bl c ∧ Q c H1
theorem pt_val {e:Expr} {t:TE} (h:PE X e t) (he:∀ whole,isTrue e X.env whole = (do let v ← whole; standAt e.pos; holding [v] (truthy v)):=by intro _; rfl):PT X e (tB t):=by
  intro pins s σ H Q I hw
  refine isTrue_plain (thn (h pins s σ H _ I hw) fun v s1 ⟨x,H1,I1,r1,q1⟩=>?_) (he _)
  obtain ⟨d,rfl,q⟩:=q1
  cases r1
  exact wpAny_truthy_bool ⟨H1,I1,q⟩
variable {tA tB':TT} {rest:List Expr}
def tAnd (t u:TT):TT:=fun σ H Q=>t σ H fun c H1=>if c = true then u σ H1 Q else Q false H1
def tOr (t u:TT):TT:=fun σ H Q=>t σ H fun c H1=>if c = true then Q true H1 else u σ H1 Q
def tNot (t:TT):TT:=fun σ H Q=>t σ H fun c H1=>Q (!c) H1
theorem pw_and1 (ha:PT X a tA):PW X (.BoolOp .And [a] pos) tA:=by
  intro wh pins s σ H Q I h
  refine isTrue_and (thn (ha pins s σ H Q I h) fun c s1 e=>?_)
  cases c with
  | true=>exact isTrue_and_nil e
  | false=>exact e
theorem pw_or1 (ha:PT X a tA):PW X (.BoolOp .Or [a] pos) tA:=by
  intro wh pins s σ H Q I h
  refine isTrue_or (thn (ha pins s σ H Q I h) fun c s1 e=>?_)
  cases c with
  | false=>exact isTrue_or_nil e
  | true=>exact e
theorem pw_and (ha:PT X a tA) (hb:PW X (.BoolOp .And (b :: rest) pos) tB'):PW X (.BoolOp .And (a :: b :: rest) pos) (tAnd tA tB'):=by
  intro wh pins s σ H Q I h
  refine isTrue_and (thn (ha pins s σ H _ I h) fun c s1 ⟨H1,I1,q1⟩=>?_)
  cases c with
  | true=>exact hb wh pins s1 σ H1 Q I1 q1
  | false=>exact ⟨H1,I1,q1⟩
theorem pw_or (ha:PT X a tA) (hb:PW X (.BoolOp .Or (b :: rest) pos) tB'):PW X (.BoolOp .Or (a :: b :: rest) pos) (tOr tA tB'):=by
  intro wh pins s σ H Q I h
  refine isTrue_or (thn (ha pins s σ H _ I h) fun c s1 ⟨H1,I1,q1⟩=>?_)
  cases c with
  | true=>exact ⟨H1,I1,q1⟩
  | false=>exact hb wh pins s1 σ H1 Q I1 q1
theorem pt_not (ha:PT X a tA):PT X (.UnaryOp .Not a pos) (tNot tA):=by
  intro pins s σ H Q I h
  exact isTrue_not (ha pins s σ H (fun c H1=>Q (!c) H1) I h)
def tAndV (ta tb:TE):TE:=fun σ H Q=>ta σ H fun x H1=>∃ c,x = .bl c ∧ if c = true then tb σ H1 Q else Q (.bl false) H1
def tOrV (ta tb:TE):TE:=fun σ H Q=>ta σ H fun x H1=>∃ c,x = .bl c ∧ if c = true then Q (.bl true) H1 else tb σ H1 Q
def tNotV (ta:TE):TE:=fun σ H Q=>ta σ H fun x H1=>∃ c,x = .bl c ∧ Q (.bl (!c)) H1
theorem pe_one {op} {t:TE} (h:PE X a t):PE X (.BoolOp op [a] pos) t:=fun pins s σ H Q I hw=>BoolOp_one (h pins s σ H Q I hw)
theorem pe_and (ha:PE X a ta) (hb:PE X (.BoolOp .And (b :: rest) pos) tb):PE X (.BoolOp .And (a :: b :: rest) pos) (tAndV ta tb):=by
  intro pins s σ H Q I h
  refine BoolOp_and (thn (ha pins s σ H _ I h) fun v s1 ⟨x,H1,I1,r1,q1⟩=>?_)
  obtain ⟨c,rfl,q1⟩:=q1
  cases r1
  refine wpAny_truthy_bool ?_
  cases c with
  | true=>exact hb pins s1 σ H1 Q I1 q1
  | false=>exact ⟨.bl false,H1,I1,rfl,q1⟩
theorem pe_or (ha:PE X a ta) (hb:PE X (.BoolOp .Or (b :: rest) pos) tb):PE X (.BoolOp .Or (a :: b :: rest) pos) (tOrV ta tb):=by
  intro pins s σ H Q I h
  refine BoolOp_or (thn (ha pins s σ H _ I h) fun v s1 ⟨x,H1,I1,r1,q1⟩=>?_)
  obtain ⟨c,rfl,q1⟩:=q1
  cases r1
  refine wpAny_truthy_bool ?_
  cases c with
  | false=>exact hb pins s1 σ H1 Q I1 q1
  | true=>exact ⟨.bl true,H1,I1,rfl,q1⟩
theorem pe_not (ha:PE X a ta):PE X (.UnaryOp .Not a pos) (tNotV ta):=by
  intro pins s σ H Q I h
  refine UnaryOp_ (thn (ha pins s σ H _ I h) fun v s1 ⟨x,H1,I1,r1,q1⟩=>?_)
  obtain ⟨c,rfl,q1⟩:=q1
  cases r1
  exact not_of (wpAny_truthy_bool ⟨.bl (!c),H1,I1,rfl,q1⟩)
def tIf (t:TT) (ta tb:TE):TE:=fun σ H Q=>t σ H fun c H1=>if c = true then ta σ H1 Q else tb σ H1 Q
theorem pe_ifExp {c:Expr} (hc:PT X c tA) (ha:PE X a ta) (hb:PE X b tb):PE X (.IfExp c a b pos) (tIf tA ta tb):=by
  intro pins s σ H Q I h
  refine wpAny_IfExp (thn (hc pins s σ H _ I h) fun d s1 ⟨H1,I1,q1⟩=>?_)
  cases d with
  | true=>exact ha pins s1 σ H1 Q I1 q1
  | false=>exact hb pins s1 σ H1 Q I1 q1
end
end L2
namespace L2
open PySem PySem.Spec PyProof.Rows
def SqL (K:PySem.W.Frag) (H:Hp) (a:Addr) (xs:List V):Prop :=
  Rd H a (.lst xs) ∨
    ∃ (o:Obj) (its:Array Value) (n:Nat),K.lookup a = some o ∧ o.cls = .type "list" ∧ o.dict = none ∧ o.data = .seq its n ∧ its.size ≤ sizeLine ∧ Vals xs its.toList
def SqT (K:PySem.W.Frag) (H:Hp) (a:Addr) (xs:List V):Prop :=
  Rd H a (.tup xs) ∨
    ∃ (o:Obj) (its:Array Value) (n:Nat),K.lookup a = some o ∧ o.cls = .type "tuple" ∧ o.data = .seq its n ∧ its.size ≤ sizeLine ∧ Vals xs its.toList
def absV:Value → Option V
  | .none=>some .non
  | .bool b=>some (.bl b)
  | .int i _=>some (.int i)
  | .str x _=>some (.str x)
  | .bytes b _=>some (.byt b)
  | .float b _=>some (.flt b)
  | .ref a=>some (.ref a)
  | .type n=>some (.ty n)
  | _=>none
theorem RelV.abs {x:V} {u:Value} (r:RelV x u):absV u = some x:=by
  cases x with
  | non=>cases r; rfl
  | bl _=>cases r; rfl
  | int _=>obtain ⟨t,rfl⟩:=r; rfl
  | str _=>obtain ⟨t,rfl⟩:=r; rfl
  | byt _=>obtain ⟨t,rfl⟩:=r; rfl
  | flt _=>obtain ⟨t,rfl⟩:=r; rfl
  | ref _=>cases r; rfl
  | ty _=>cases r; rfl
theorem RelV.inj {x y:V} {u:Value} (r:RelV x u) (q:RelV y u):x = y:=Option.some.inj (r.abs.symm.trans q.abs)
theorem Vals.inj:∀ {xs ys:List V} {us:List Value},Vals xs us → Vals ys us → xs = ys
  | _,_,_,.nil,.nil=>rfl
  | _,_,_,.cons r t,.cons r' t'=>by rw [r.inj r',Vals.inj t t']
section
variable {X:Cx} {pins:List (Addr × Obj)} {σ:St} {H:Hp} {s:Shared} {a:Addr} {xs ys:List V}
theorem SqL.of {K:PySem.W.Frag} (h:H a = some (.lst xs)):SqL K H a xs:=.inl (.inl h)
theorem SqT.of {K:PySem.W.Frag} (h:H a = some (.tup xs)):SqT K H a xs:=.inl (.inl h)
theorem Inv.list (I:Inv X pins σ H s) (h:SqL X.K H a xs):∃ its:List Value,Vals xs its ∧ PlainL s.heap a its.toArray ∧ xs.length ≤ sizeLine:=by
  rcases h with h | ⟨o,its,n,hk,hc,hd,hs,hz,r⟩
  · obtain ⟨z,its,n,r,e⟩:=h.ok I.hok
    exact ⟨its,r,⟨_,n,e,rfl,rfl,rfl⟩,z⟩
  · refine ⟨its.toList,r,⟨o,n,I.kIn a o hk,hc,hd,by simpa using hs⟩,?_⟩
    have e:=r.length
    simp only [Array.length_toList] at e
    omega
theorem Inv.tuple (I:Inv X pins σ H s) (h:SqT X.K H a xs):∃ its:List Value,Vals xs its ∧ IsTup s.heap a its.toArray ∧ xs.length ≤ sizeLine:=by
  rcases h with h | ⟨o,its,n,hk,hc,hs,hz,r⟩
  · obtain ⟨z,its,r,p⟩:=h.ok I.hok
    exact ⟨its,r,p,z⟩
  · refine ⟨its.toList,r,⟨o,I.kIn a o hk,hc,n,by simpa using hs⟩,?_⟩
    have e:=r.length
    simp only [Array.length_toList] at e
    omega
theorem Inv.list_inj (I:Inv X pins σ H s) (h:SqL X.K H a xs) (h':SqL X.K H a ys):xs = ys:=by
  obtain ⟨its,r,⟨o,n,e,_,_,d⟩,_⟩:=I.list h
  obtain ⟨its',r',⟨o',n',e',_,_,d'⟩,_⟩:=I.list h'
  rw [e] at e'; cases e'
  rw [d] at d'
  injection d' with d1 _
  have:its = its':=by simpa using congrArg Array.toList d1
  subst this
  exact r.inj r'
theorem Inv.tuple_inj (I:Inv X pins σ H s) (h:SqT X.K H a xs) (h':SqT X.K H a ys):xs = ys:=by
  obtain ⟨its,r,⟨o,e,_,n,d⟩,_⟩:=I.tuple h
  obtain ⟨its',r',⟨o',e',_,n',d'⟩,_⟩:=I.tuple h'
  rw [e] at e'; cases e'
  rw [d] at d'
  injection d' with d1 _
  have:its = its':=by simpa using congrArg Array.toList d1
  subst this
  exact r.inj r'
end
abbrev Cx.wish (X:Cx) (E:Value → Shared → Prop):Cx:={ X with xe:=E }
abbrev Cx.nox (X:Cx):Cx:=X.wish fun _ _=>False
theorem Cx.Ok.wish {X:Cx} (ok:X.Ok) (E:Value → Shared → Prop):(X.wish E).Ok :=
  ⟨ok.mod,ok.kind,ok.glob,ok.blt,ok.above,ok.inj,ok.has,ok.cab,ok.hd,ok.frames,ok.stk,ok.exf,ok.bs,ok.bsz,ok.noex,ok.exfs,ok.funs,ok.frf⟩
theorem Cx.Ok.unwish {X:Cx} {E:Value → Shared → Prop} (ok:(X.wish E).Ok):X.Ok :=
  ⟨ok.mod,ok.kind,ok.glob,ok.blt,ok.above,ok.inj,ok.has,ok.cab,ok.hd,ok.frames,ok.stk,ok.exf,ok.bs,ok.bsz,ok.noex,ok.exfs,ok.funs,ok.frf⟩
section
variable {X:Cx} {pins:List (Addr × Obj)} {σ:St} {H:Hp} {s:Shared} {E:Value → Shared → Prop}
theorem Inv.wish (I:Inv X pins σ H s) (E:Value → Shared → Prop):Inv (X.wish E) pins σ H s:=⟨I.ok.wish E,I.os,I.bare,I.base,I.loc,I.cell,I.free,I.freeC,I.pin,I.hok,I.len⟩
theorem Inv.unwish (I:Inv (X.wish E) pins σ H s):Inv X pins σ H s:=⟨I.ok.unwish,I.os,I.bare,I.base,I.loc,I.cell,I.free,I.freeC,I.pin,I.hok,I.len⟩
theorem SP.unwish {D:Ends} {f:Flow} {s':Shared} (h:SP (X.wish E) pins D f s'):SP X pins D f s':=by
  cases f with
  | next=>obtain ⟨σ',H',I,q⟩:=h; exact ⟨σ',H',I.unwish,q⟩
  | brk=>obtain ⟨σ',H',I,q⟩:=h; exact ⟨σ',H',I.unwish,q⟩
  | cont=>obtain ⟨σ',H',I,q⟩:=h; exact ⟨σ',H',I.unwish,q⟩
  | ret u=>obtain ⟨v,σ',H',I,r,q⟩:=h; exact ⟨v,σ',H',I.unwish,r,q⟩
theorem PE.nox {e:Expr} {t:TE} (h:PE X.nox e t):PE X e t:=fun pins s σ H Q I hw =>
  wpAny_mono (h pins s σ H Q (I.wish _) hw) (fun _ _ ⟨v,H',I',r,q⟩=>⟨v,H',I'.unwish,r,q⟩) fun _ _ z=>False.elim z
theorem PT.nox {e:Expr} {t:TT} (h:PT X.nox e t):PT X e t:=fun pins s σ H Q I hw =>
  wpAny_mono (h pins s σ H Q (I.wish _) hw) (fun _ _ ⟨H',I',q⟩=>⟨H',I'.unwish,q⟩) fun _ _ z=>False.elim z
theorem PSs.nox {st:List Stmt} {t:TS} (h:PSs X.nox st t):PSs X st t:=fun pins s σ H D I hw =>
  wpAny_mono (h pins s σ H D (I.wish _) hw) (fun _ _ q=>q.unwish) fun _ _ z=>False.elim z
end
section
variable {X:Cx} {st:Stmt} {rest:List Stmt} {t u:TS} {e:Expr} {te:TE} {pos:Pos}
def tNext:TS:=fun D σ H=>D.nx σ H
def tSeq (t u:TS):TS:=fun D σ H=>t { D with nx:=u D } σ H
theorem pss_nil:PSs X [] tNext:=fun _ _ σ H _ I h=>wpAny_execs_nil ⟨σ,H,I,h⟩
theorem pss_cons (h1:PS X st t) (h2:PSs X rest u):PSs X (st :: rest) (tSeq t u):=by
  intro pins s σ H D I h
  refine wpAny_execs_cons (thn (h1 pins s σ H { D with nx:=u D } I h) fun f s1 q=>?_)
  cases f with
  | next =>
    obtain ⟨σ',H',I',q⟩:=q
    exact h2 pins s1 σ' H' D I' q
  | ret v=>exact q
  | brk=>exact q
  | cont=>exact q
theorem pss_one (h1:PS X st t):PSs X [st] t:=by
  intro pins s σ H D I h
  refine wpAny_execs_cons (thn (h1 pins s σ H D I h) fun f s1 q=>?_)
  cases f with
  | next=>exact wpAny_execs_nil q
  | ret v=>exact q
  | brk=>exact q
  | cont=>exact q
theorem Inv.quiet {pins:List (Addr × Obj)} {σ:St} {H:Hp} {s:Shared} (I:Inv X pins σ H s):interactive X.env = false:=by simp [interactive,I.ok.kind]
def tDrop (te:TE):TS:=fun D σ H=>te σ H fun _ H1=>D.nx σ H1
theorem ps_expr (he:PE X e te) (hs:swapsWith e none pos.line X.env = pure false:=by rfl):PS X (.Expr e pos) (tDrop te):=by
  intro pins s σ H D I h
  exact wpAny_Expr_any (thn (he pins s σ H _ I h) fun v s1 ⟨x,H1,I1,r1,q1⟩=>⟨σ,H1,I1,q1⟩) I.quiet hs
def tRet (te:TE):TS:=fun D σ H=>te σ H D.rt
theorem ps_ret (he:PE X e te):PS X (.Return (some e) pos) (tRet te):=by
  intro pins s σ H D I h
  exact wpAny_Return_some (thn (he pins s σ H _ I h) fun v s1 ⟨x,H1,I1,r1,q1⟩=>⟨x,σ,H1,I1,r1,q1⟩)
def tIfS (c:TT) (t u:TS):TS:=fun D σ H=>c σ H fun b H1=>if b = true then t D σ H1 else u D σ H1
theorem ps_if {c:Expr} {a b:List Stmt} {tc:TT} (hc:PT X c tc) (ha:PSs X a t) (hb:PSs X b u):PS X (.If c a b pos) (tIfS tc t u):=by
  intro pins s σ H D I h
  refine wpAny_If (thn (hc pins s σ H _ I h) fun d s1 ⟨H1,I1,q1⟩=>?_)
  cases d with
  | true=>exact ha pins s1 σ H1 D I1 q1
  | false=>exact hb pins s1 σ H1 D I1 q1
end
abbrev TG:=V → St → Hp → (St → Hp → Prop) → Prop
abbrev TGs:=List V → St → Hp → (St → Hp → Prop) → Prop
def PG (X:Cx) (target:Expr) (t:TG):Prop :=
  ∀ (pins:List (Addr × Obj)) (s:Shared) (σ:St) (H:Hp) (v:V) (u:Value) (Q:St → Hp → Prop),Inv X pins σ H s → RelV v u → t v σ H Q →
    wpAny (model X.prog X.w) X.A (assign target X.env u) (fun _ s'=>∃ σ' H',Inv X pins σ' H' s' ∧ Q σ' H') X.xe s
def PGs (X:Cx) (ts:List Expr) (t:TGs):Prop :=
  ∀ (pins:List (Addr × Obj)) (s:Shared) (σ:St) (H:Hp) (vs:List V) (us:List Value) (Q:St → Hp → Prop),Inv X pins σ H s → Vals vs us → t vs σ H Q →
    wpAny (model X.prog X.w) X.A (assignInOrder ((assignEach ts X.env).map (·.2)) us) (fun _ s'=>∃ σ' H',Inv X pins σ' H' s' ∧ Q σ' H') X.xe s
abbrev TSet:=V → V → V → Hp → (Hp → Prop) → Prop
def PSet (X:Cx) (t:TSet):Prop :=
  ∀ (pins:List (Addr × Obj)) (s:Shared) (σ:St) (H:Hp) (o i v:V) (ov iv u:Value) (Q:Hp → Prop),Inv X pins σ H s → RelV o ov → RelV i iv → RelV v u → t o i v H Q →
    wpAny (model X.prog X.w) X.A (setItem ov iv u) (fun _ s'=>∃ H',Inv X pins σ H' s' ∧ Q H') X.xe s
section
variable {X:Cx} {pos:Pos}
def gName (i:Nat):TG:=fun v σ H Q=>Q (σ.set i (some v)) H
theorem pg_name {i:Nat} {x:Str} (hN:X.N.Nodup) (hi:X.N[i]? = some x) (hx:Loc X.env.scope x) (hf:X.fn x = true ∨ X.env.scope.names.lookup x = some .local:=by first | exact .inl rfl | exact .inr rfl | assumption):PG X (.Name x pos) (gName i):=by
  intro pins s σ H v u Q I r h
  exact wpAny_assign_Name (store_ok I hN hi hx r (fun s' I'=>⟨_,H,I',h⟩) hf)
def gNil:TGs:=fun vs σ H Q=>vs = [] ∧ Q σ H
def gCons (t:TG) (u:TGs):TGs:=fun vs σ H Q=>∃ v r,vs = v :: r ∧ t v σ H fun σ' H'=>u r σ' H' Q
theorem pgs_nil:PGs X [] gNil:=by
  intro pins s σ H vs us Q I r h
  obtain ⟨e,h⟩:=h
  subst e
  cases r
  exact assignInOrder_nil ⟨σ,H,I,h⟩
theorem pgs_cons {e:Expr} {es:List Expr} {t:TG} {u:TGs} (h1:PG X e t) (h2:PGs X es u)
    (hs:(assignEach (e :: es) X.env).map (·.2) = assign e X.env :: (assignEach es X.env).map (·.2):=by rfl):PGs X (e :: es) (gCons t u):=by
  intro pins s σ H vs us Q I r h
  obtain ⟨v,vr,e1,h⟩:=h
  subst e1
  cases r with
  | cons r rr =>
    rw [hs]
    refine assignInOrder_cons (thn (h1 pins s σ H _ _ _ I r h) fun _ s1 ⟨σ1,H1,I1,q1⟩=>?_)
    exact h2 pins s1 σ1 H1 _ _ Q I1 rr q1
def gTup (K:PySem.W.Frag) (n:Nat) (t:TGs):TG:=fun v σ H Q=>∃ a xs,v = .ref a ∧ SqT K H a xs ∧ xs.length = n ∧ t xs σ H Q
theorem pg_tup {es:List Expr} {k:Nat} {t:TGs} {n:Nat} (hc:X.calm = true) (h:PGs X es t)
    (hn:(assignEach es X.env).length = n:=by rfl) (hst:(assignEach es X.env).findIdx? (·.1) = none:=by rfl):PG X (.Tuple es k pos) (gTup X.K n t):=by
  intro pins s σ H v u Q I r hw
  obtain ⟨a,xs,e1,hq,hl,hw⟩:=hw
  subst e1
  cases r
  obtain ⟨its,rv,ht,hz⟩:=I.tuple hq
  refine assign_Tuple_tuple (I.ok.hd hc) ht (by simp [hn,← hl,rv.length]) hst fun h' hx=>?_
  have I1:Inv X pins σ H { s with heap:=h' }:=I.kept (t':=s.toks) fun b o e=>hx b o (Nat.ne_of_lt (Heap.lt_size e)) e
  exact h pins _ σ H xs _ Q I1 (by simpa using rv) hw
def gSub (to ti:TE) (t:TSet):TG:=fun v σ H Q=>to σ H fun o H1=>ti σ H1 fun i H2=>t o i v H2 fun H3=>Q σ H3
theorem pg_sub {o i:Expr} {to ti:TE} {t:TSet} (ho:PE X o to) (hi:PE X i ti) (hs:PSet X t)
    (ha:∀ v,assign (.Subscript o i pos) X.env v = (do
      let ov ← holding [v] (eval o X.env)
      let iv ← holding [v,ov] (eval i X.env)
      standAt pos
      holding [v,ov,iv] (setItem ov iv v)
      release [v,ov,iv] []):=by intro _; rfl):PG X (.Subscript o i pos) (gSub to ti t):=by
  intro pins s σ H v u Q I r h
  rw [ha]
  refine wpAny_bind (wpAny_holding (thn (ho pins s σ H _ I h) fun ov s1 ⟨x,H1,I1,r1,q1⟩=>?_))
  refine wpAny_bind (wpAny_holding (thn (hi pins s1 σ H1 _ I1 q1) fun iv s2 ⟨y,H2,I2,r2,q2⟩=>?_))
  refine wpAny_bind (wpAny_standAt (wpAny_bind (wpAny_holding (thn (hs pins s2 σ H2 x y v ov iv u _ I2 r1 r2 r q2) fun _ s3 ⟨H3,I3,q3⟩=>?_))))
  exact wpAny_release ⟨σ,H3,I3,q3⟩
def tAsg (te:TE) (g:TG):TS:=fun D σ H=>te σ H fun x H1=>g x σ H1 D.nx
theorem ps_asg {tg e:Expr} {te:TE} {g:TG} (he:PE X e te) (hg:PG X tg g) (hs:swapsWithSole [tg] e pos.line X.env = pure false:=by rfl) (hw:swappedStores [tg] e X.env = pure none:=by rfl)
    (h1:(assignEach [tg] X.env).map (·.2) = [assign tg X.env]:=by rfl):PS X (.Assign [tg] e pos) (tAsg te g):=by
  intro pins s σ H D I h
  refine wpAny_Assign_stores (thn (he pins s σ H _ I h) fun v s1 ⟨x,H1,I1,r1,q1⟩=>?_) hs hw
  rw [h1]
  exact thn (hg pins s1 σ H1 x v _ I1 r1 q1) fun _ s2 q=>q
theorem ps_set {i:Nat} {x:Str} {e:Expr} {te:TE} {pos':Pos} (hN:X.N.Nodup) (hi:X.N[i]? = some x) (hx:Loc X.env.scope x) (he:PE X e te) (hs:swapsWith e (some (.Name x pos')) pos.line X.env = pure false:=by rfl) (hf:X.fn x = true ∨ X.env.scope.names.lookup x = some .local:=by first | exact .inl rfl | exact .inr rfl | assumption) :
    PS X (.Assign [.Name x pos'] e pos) (tAsg te (gName i)):=by
  intro pins s σ H D I h
  refine wpAny_Assign_Name (thn (he pins s σ H _ I h) fun v s1 ⟨y,H1,I1,r1,q1⟩=>?_) hs
  exact store_ok I1 hN hi hx r1 (fun s2 I2=>⟨_,H1,I2,q1⟩) hf
def tPar (i j:Nat) (ta:TA):TS:=fun D σ H=>ta σ H fun vs H1=>∃ v w,vs = [v,w] ∧ D.nx ((σ.set i (some v)).set j (some w)) H1
theorem ps_par {i j:Nat} {x y:Str} {a b:Expr} {ta:TA} {px py pt:Pos} {kt k2 pt2} (hc:X.calm = true) (hN:X.N.Nodup) (hi:X.N[i]? = some x) (hj:X.N[j]? = some y) (hij:i ≠ j)
    (hx:X.env.scope.names.lookup x = some .local) (hy:X.env.scope.names.lookup y = some .local) (ha:PA X [a,b] ta)
    (hw:swappedStores [.Tuple [.Name x px,.Name y py] kt pt] (.Tuple [a,b] k2 pt2) X.env = pure (some [x,y]))
    (hs:swapsWithSole [.Tuple [.Name x px,.Name y py] kt pt] (.Tuple [a,b] k2 pt2) pos.line X.env = pure false:=by rfl) :
    PS X (.Assign [.Tuple [.Name x px,.Name y py] kt pt] (.Tuple [a,b] k2 pt2) pos) (tPar i j ta):=by
  intro pins s σ H D I h
  rw [exec_Assign_arm]
  refine wpAny_bind (wpAny_standAt ?_)
  rw [hs]
  refine wpAny_bind (wpAny_pure ?_)
  rw [if_neg (by decide)]
  refine wpAny_bind (Tuple_ (thn (ha _ pins s σ H _ I h) fun us s1 ⟨vs,H1,I1,r1,q1⟩=>?_))
  obtain ⟨v,w,e1,q1⟩:=q1
  subst e1
  obtain ⟨u1,u2,rfl,rv,rw'⟩:∃ u1 u2,us = [u1,u2] ∧ RelV v u1 ∧ RelV w u2:=by
    cases r1 with
    | cons p q =>
      cases q with
      | cons p' q' =>
        cases q'
        exact ⟨_,_,rfl,p,p'⟩
  refine wpAny_newObj_type ?_ (by show 2 ≤ sizeLine; decide)
  have I2:Inv X pins σ H1 { s1 with heap:=s1.heap.push { cls:=.type "tuple", data:=.seq [u1,u2].toArray } }:=I1.kept (t':=s1.toks) fun b o e=>Heap.get?_push_of_some _ e
  rw [hw]
  refine wpAny_bind (wpAny_pure ?_)
  show wpAny (model X.prog X.w) X.A (do rule "assign.swapped-stores"; let items ← unpackItems (.ref s1.heap.objs.size) 2 none; assignInOrder [fun v=>bindName X.env y v,fun v=>bindName X.env x v] items.reverse; pure Flow.next) _ _ _
  refine wpAny_bind (wpAny_rule (wpAny_bind (unpackItems_tuple (items:=#[u1,u2]) (I.ok.hd hc) (IsTup.new s1.heap _) fun h' hx'=>?_)))
  have I3:=I2.kept (h':=h') (t':=s1.toks) fun b o e=>hx' b o (Nat.ne_of_lt (Heap.lt_size e)) e
  show wpAny _ _ (assignInOrder [fun v=>bindName X.env y v,fun v=>bindName X.env x v] [u2,u1] >>= fun _=>pure Flow.next) _ _ _
  refine wpAny_bind (assignInOrder_cons (wpAny_bindName (store_ok I3 hN hj (.inl hy) rw' (fun s2 I4=>?_) (.inr hy))))
  refine assignInOrder_cons (wpAny_bindName (store_ok I4 hN hi (.inl hx) rv (fun s3 I5=>assignInOrder_nil (wpAny_pure ?_)) (.inr hx)))
  rw [List.set_comm _ _ (Ne.symm hij)] at I5
  exact ⟨_,H1,I5,q1⟩
end
section
variable {X:Cx} {pos:Pos}
end
structure It where
  go:Nat → Hp → Prop
  yld:Nat → Hp → V → Hp → Prop
  stop:Nat → Hp → Prop
def FpOk (X:Cx) (pins:List (Addr × Obj)) (H:Hp) (b:Addr):Prop :=
  H b = none ∧ b ≠ X.env.locals ∧ b ∉ X.fs ∧ (b ∈ X.ex ∨ X.s₀.heap.objs.size ≤ b) ∧ (∀ x c,X.env.cells.lookup x = some c → c ≠ b) ∧ ∀ p ∈ X.pn ++ pins,p.1 ≠ b
theorem Inv.fpOk {X:Cx} {pins:List (Addr × Obj)} {σ:St} {H H':Hp} {s:Shared} {b:Addr} (I:Inv X pins σ H s) (hb:s.heap.objs.size ≤ b) (hn:H' b = none):FpOk X pins H' b:=by
  refine ⟨hn,Nat.ne_of_gt (Nat.lt_of_lt_of_le I.lt hb),I.nofs hb,.inr (Nat.le_trans I.sz hb),fun x c e z=>?_,fun p hp z=>?_⟩
  · obtain ⟨v,q⟩:=I.cell x c e
    exact absurd (Nat.lt_of_lt_of_le q.lt (by rw [z]; exact hb)) (Nat.lt_irrefl _)
  · exact absurd (Nat.lt_of_lt_of_le (Heap.lt_size (I.pin p hp).1) (by rw [z]; exact hb)) (Nat.lt_irrefl _)
structure Turn (P:Program) (w:World) (K:PySem.W.Frag) (tg:Expr) (J:It) (fp:List Addr) (it:Addr) (tn:Nat → Heap → Prop):Prop where
  mem:it ∈ fp
  obj:∀ i h,tn i h → ∀ b ∈ fp,∃ o,h.get? b = some o ∧ ∀ v,o.data ≠ .cell v
  keep:∀ i h h',tn i h → (∀ b ∈ fp,∀ o,h.get? b = some o → h'.get? b = some o) → tn i h'
  item:∀ (X:Cx),X.prog = P → X.w = w → X.K = K → X.calm = true → ∀ (i:Nat) (pins:List (Addr × Obj)) (s:Shared) (σ:St) (H:Hp) (E:Value → Shared → Prop),Inv X pins σ H s → (∀ b ∈ fp,FpOk X pins H b) → tn i s.heap → J.go i H →
    wpAny (model P w) X.A (pyNext (.ref it)) (fun r s1=>∃ u,r = some u ∧
      wpAny (model P w) X.A (letOwnedTupleGo tg (.ref it) u) (fun _ s2=>∃ x H',Inv X pins σ H' s2 ∧ RelV x u ∧ J.yld i H x H' ∧ tn (i + 1) s2.heap ∧ ∀ b ∈ fp,H' b = none) E s1) E s
  done:∀ (X:Cx),X.prog = P → X.w = w → X.K = K → X.calm = true → ∀ (i:Nat) (pins:List (Addr × Obj)) (s:Shared) (σ:St) (H:Hp) (E:Value → Shared → Prop),Inv X pins σ H s → (∀ b ∈ fp,FpOk X pins H b) → tn i s.heap → J.stop i H →
    wpAny (model P w) X.A (pyNext (.ref it)) (fun r s1=>r = none ∧ Inv X pins σ H s1) E s
  self:∀ (A:Around) (i:Nat) (s:Shared) (Q:Value → Shared → Prop) (E:Value → Shared → Prop),tn i s.heap → Q (.ref it) s → wpAny (model P w) A (pyIter (.ref it)) Q E s
abbrev TI:=St → Hp → (It → Hp → Prop) → Prop
def PIE (X:Cx) (pins:List (Addr × Obj)) (σ:St) (tg:Expr) (R:It → Hp → Prop) (itv:Value) (s2:Shared):Prop :=
  ∃ (it:Addr) (fp:List Addr) (tn:Nat → Heap → Prop) (J:It) (H':Hp),itv = .ref it ∧ Inv X pins σ H' s2 ∧ Turn X.prog X.w X.K tg J fp it tn ∧ tn 0 s2.heap ∧ (∀ b ∈ fp,FpOk X pins H' b) ∧ R J H'
def PI (X:Cx) (tg iter:Expr) (wi:TI):Prop :=
  ∀ (pins:List (Addr × Obj)) (s:Shared) (σ:St) (H:Hp) (R:It → Hp → Prop),Inv X pins σ H s → wi σ H R →
    wpAny (model X.prog X.w) X.A (eval iter X.env) (fun v s1=>wpAny (model X.prog X.w) X.A (pyIter v) (PIE X pins σ tg R) X.xe s1) X.xe s
theorem go_of {M:Model} {A:Around} {E:Value → Shared → Prop} {s:Shared} {tg:Expr} {it:Addr} {u:Value} {o:Obj} {n:String} {vs:Array Value} {Q:Unit → Shared → Prop} (ho:s.heap.get? it = some o) (hc:o.cls = .type n) (hd:o.data = .fields vs)
    (hn:["enumerate", "zip", "dict_itemiterator", "dict_reverseitemiterator", "odict_iterator", "itertools.zip_longest", "itertools.pairwise"].contains n = false) (hQ:Q () s):wpAny M A (letOwnedTupleGo tg (.ref it) u) Q E s:=by
  unfold letOwnedTupleGo
  cases tg <;> first
    | exact wpAny_pure hQ
    | (cases u <;> first
        | exact wpAny_pure hQ
        | (refine wpAny_bind (wpAny_load ho ?_)
           rw [hc,hd]
           show wpAny M A (if (["enumerate", "zip", "dict_itemiterator", "dict_reverseitemiterator", "odict_iterator", "itertools.zip_longest", "itertools.pairwise"].contains n && vs[0]? == some (rawInt _)) = true then _ else _) Q E s
           rw [if_neg (by intro h; rw [hn,Bool.false_and] at h; cases h)]
           exact wpAny_pure hQ))
def Itl (K:PySem.W.Frag) (a:Addr):It :=
  ⟨fun i H=>∃ xs x,SqL K H a xs ∧ xs[i]? = some x,fun i H x H'=>H' = H ∧ ∀ xs,SqL K H a xs → xs[i]? = some x,fun i H=>∃ xs,SqL K H a xs ∧ xs.length ≤ i⟩
def Itr (lo:Int) (n:Nat):It:=⟨fun i _=>i < n,fun i H x H'=>H' = H ∧ x = .int (lo + i),fun i _=>n ≤ i⟩
theorem turn_list {P:Program} {w:World} {K:PySem.W.Frag} {tg:Expr} (a it:Addr):Turn P w K tg (Itl K a) [it] it (fun i h=>h.IsListIter it a i) where
  mem:=by simp
  obj:=fun i h st b hb=>by
    have e:b = it:=by simpa using hb
    subst e
    obtain ⟨o,e,c,d⟩:=st
    exact ⟨o,e,fun v z=>by rw [d] at z; cases z⟩
  keep:=fun i h h' st k=>st.at fun o e=>k it (by simp) o e
  item:=by
    intro X hP hw hK hc i pins s σ H E I hf st hg
    subst hP hw hK
    obtain ⟨xs,x,hq,hx⟩:=hg
    obtain ⟨its,rv,p,hz⟩:=I.list hq
    obtain ⟨u,hu,ru⟩:=rv.get hx
    obtain ⟨f0,f1,f2,f3,f4,f5⟩:=hf it (by simp)
    refine wpAny_pyNext_list_item st p.isList (x:=u) (by simpa using hu) fun h' st' sb=>?_
    have I1:Inv X pins σ H { s with heap:=h' }:=I.turned (t':=s.toks) (fun b o hb e=>(sb.2 b hb).trans e) f0 f1 f3 f4 f5
    obtain ⟨o,e,c,d⟩:=id st'
    exact ⟨u,rfl,go_of (s:={ s with heap:=h' }) e c d (by decide) ⟨x,H,I1,ru,⟨rfl,fun ys hy=>by rw [I.list_inj hy hq]; exact hx⟩,st',fun b hb=>(hf b hb).1⟩⟩
  done:=by
    intro X hP hw hK hc i pins s σ H E I hf st hg
    subst hP hw hK
    obtain ⟨xs,hq,hx⟩:=hg
    obtain ⟨its,rv,p,hz⟩:=I.list hq
    obtain ⟨f0,f1,f2,f3,f4,f5⟩:=hf it (by simp)
    have hl:=rv.length
    exact wpAny_pyNext_list_end (I.ok.hd hc) st p.isList (by simp; omega) fun h' eb=>⟨rfl,I.turned (t':=s.toks) (fun b o hb e=>eb b o hb e) f0 f1 f3 f4 f5⟩
  self:=fun _ _ _ _ _ st h=>wpAny_pyIter_listiter st h
theorem turn_range {P:Program} {w:World} {K:PySem.W.Frag} {tg:Expr} (it:Addr) (lo:Int) (n:Nat):Turn P w K tg (Itr lo n) [it] it (fun i h=>IsRangeIter h it (lo + (i:Nat) * 1) ((n:Int) - (i:Nat)) 1) where
  mem:=by simp
  obj:=fun i h st b hb=>by
    have e:b = it:=by simpa using hb
    subst e
    exact ⟨_,st,fun v z=>by
      have z':Data.fields _ = Data.cell v:=z
      cases z'⟩
  keep:=fun i h h' st k=>k it (by simp) _ st
  item:=by
    intro X hP hw hK hc i pins s σ H E I hf st hg
    subst hP hw hK
    obtain ⟨f0,f1,f2,f3,f4,f5⟩:=hf it (by simp)
    have W:=Walks.range (prog:=X.prog) (w:=X.w) (I.ok.hd hc) it lo 1 n
    refine W.item i s _ _ hg st fun v h' tk hv st' kk=>?_
    obtain ⟨t,rfl⟩:=hv
    have I1:Inv X pins σ H { s with heap:=h',toks:=tk }:=I.turned (fun b o hb e=>kk b o (by simpa using hb) e) f0 f1 f3 f4 f5
    refine ⟨_,rfl,go_of (s:={ s with heap:=h',toks:=tk }) (n := "range_iterator") st' rfl rfl (by decide) ⟨.int (lo + i),H,I1,⟨t,?_⟩,⟨rfl,rfl⟩,st',fun b hb=>(hf b hb).1⟩⟩
    rw [Int.mul_one]
  done:=by
    intro X hP hw hK hc i pins s σ H E I hf st hg
    subst hP hw hK
    obtain ⟨f0,f1,f2,f3,f4,f5⟩:=hf it (by simp)
    exact wpAny_pyNext_range_end (I.ok.hd hc) st (by have:n ≤ i:=hg; omega) fun h' eb=>⟨rfl,I.turned (t':=s.toks) (fun b o hb e=>eb b o hb e) f0 f1 f3 f4 f5⟩
  self:=fun _ _ _ _ _ st h=>wpAny_pyIter_rangeiter st h
end L2
namespace L2
open PySem PySem.Spec PyProof.Rows
section
variable {X:Cx} {tg:Expr}
def iList (K:PySem.W.Frag) (tl:TE):TI:=fun σ H R=>tl σ H fun x H1=>∃ a,x = .ref a ∧ (∃ xs,SqL K H1 a xs) ∧ R (Itl K a) H1
theorem pi_list {l:Expr} {tl:TE} (hl:PE X l tl):PI X tg l (iList X.K tl):=by
  intro pins s σ H R I h
  refine thn (hl pins s σ H _ I h) fun v s1 ⟨x,H1,I1,r1,q1⟩=>?_
  obtain ⟨a,e,⟨xs,hq⟩,q⟩:=q1
  subst e
  cases r1
  obtain ⟨its,rv,p,hz⟩:=I1.list hq
  refine wpAny_pyIter_list p.isList ?_
  refine ⟨s1.heap.objs.size,[s1.heap.objs.size],_,_,H1,rfl,I1.kept (t':=s1.toks) fun b o e=>Heap.get?_push_of_some _ e,turn_list a _,⟨_,Heap.get?_push_size _ rfl,rfl,rfl⟩,fun b hb=>?_,q⟩
  have e:b = s1.heap.objs.size:=by simpa using hb
  subst e
  exact I1.fpOk (Nat.le_refl _) (I1.hok.fresh (Nat.le_refl _))
theorem range_it {pins:List (Addr × Obj)} {σ:St} {H:Hp} {s:Shared} {R:It → Hp → Prop} {E:Value → Shared → Prop} {lo hi:Int} {t u v:Tok} {tk:Nat} (I:Inv X pins σ H s) (h1 : -(2 ^ 62) ≤ lo) (h2:lo < 2 ^ 62) (h3 : -(2 ^ 62) ≤ hi) (h4:hi < 2 ^ 62)
    (q:R (Itr lo (hi - lo).toNat) H):wpAny (model X.prog X.w) X.A (pyIter (.ref s.heap.objs.size)) (PIE X pins σ tg R) E { s with heap:=s.heap.push { cls:=.type "range", data:=.fields #[.int lo t,.int hi u,.int 1 v] },toks:=tk }:=by
  refine wpAny_pyIter_range (IsRange.new ..) (small_one h1 h2 h3 h4) ?_
  have I1:Inv X pins σ H { s with heap:=s.heap.push { cls:=.type "range", data:=.fields #[.int lo t,.int hi u,.int 1 v] },toks:=tk }:=I.kept fun b o e=>Heap.get?_push_of_some _ e
  refine ⟨(s.heap.push { cls:=.type "range", data:=.fields #[.int lo t,.int hi u,.int 1 v] }).objs.size,[(s.heap.push { cls:=.type "range", data:=.fields #[.int lo t,.int hi u,.int 1 v] }).objs.size],_,_,H,rfl,
    I1.kept (t':=tk) fun b o e=>Heap.get?_push_of_some _ e,turn_range _ lo (hi - lo).toNat,?_,fun b hb=>?_,q⟩
  · have e1:lo + ((0:Nat):Int) * 1 = lo:=by simp
    have e2:(((hi - lo).toNat:Nat):Int) - ((0:Nat):Int) = Builtin.Range.rangeSize lo hi 1:=by rw [rangeSize_one]; split <;> omega
    show IsRangeIter _ _ (lo + ((0:Nat):Int) * 1) ((((hi - lo).toNat:Nat):Int) - ((0:Nat):Int)) 1
    rw [e1,e2]
    exact Heap.get?_push_size _ rfl
  · have e:b = (s.heap.push { cls:=.type "range", data:=.fields #[.int lo t,.int hi u,.int 1 v] }).objs.size:=by simpa using hb
    subst e
    exact I1.fpOk (Nat.le_refl _) (I1.hok.fresh (Nat.le_refl _))
def iRng1 (ta:TA):TI:=fun σ H R=>ta σ H fun vs H1=>∃ j:Int,vs = [.int j] ∧ -(2 ^ 62) ≤ j ∧ j < 2 ^ 62 ∧ R (Itr 0 j.toNat) H1
theorem pi_range1 {a:Expr} {ta:TA} {p pos:Pos} (hg:Gl X "range") (hm:X.mg "range" = none) (ha:PA X [a] ta) (hs:starEach [a] X.env = [(false,eval a X.env)]:=by rfl):PI X tg (.Call (.Name "range" p) [a] [] pos) (iRng1 ta):=by
  intro pins s σ H R I h
  refine Call_ (ld_blt I hg hm boot_range (PyProof.Rows.callWith_type1 (thn (ha pos pins s σ H _ I h) fun us s1 ⟨vs,H1,I1,r1,q1⟩=>?_) hs rfl))
  obtain ⟨j,e,q1,q2,q⟩:=q1
  subst e
  cases r1 with
  | cons r rr =>
    cases rr
    obtain ⟨t,rfl⟩:=r
    exact call_range_1 (range_it I1 (by omega) (by omega) q1 q2 (by simpa using q))
def tFor (wi:TI) (g:TG) (tb:TS):TS:=fun D σ H=>wi σ H fun J H1=>∃ W:Nat → Nat → St → Hp → Prop,(∃ m,W 0 m σ H1) ∧ ∀ i m σ H,W i m σ H →
  (J.stop i H ∧ D.nx σ H) ∨ (J.go i H ∧ ∃ N:St → Hp → Prop,(∀ σ' H',N σ' H' → ∃ m',m' < m ∧ W (i + 1) m' σ' H') ∧ ∀ x H',J.yld i H x H' → g x σ H' fun σ2 H2=>tb { D with nx:=N,ct:=N,bk:=D.nx } σ2 H2)
def pinsAt (fp:List Addr) (h:Heap):List (Addr × Obj):=fp.filterMap fun b=>(h.get? b).map fun o=>(b,o)
theorem mem_pinsAt {fp:List Addr} {h:Heap} {b:Addr} {o:Obj} (hb:b ∈ fp) (e:h.get? b = some o):(b,o) ∈ pinsAt fp h:=List.mem_filterMap.mpr ⟨b,hb,by rw [e]; rfl⟩
theorem of_pinsAt {fp:List Addr} {h:Heap} {p:Addr × Obj} (hp:p ∈ pinsAt fp h):p.1 ∈ fp ∧ h.get? p.1 = some p.2:=by
  obtain ⟨b,hb,e⟩:=List.mem_filterMap.mp hp
  cases q:h.get? b with
  | none=>rw [q] at e; cases e
  | some o =>
    rw [q] at e
    have e':(b,o) = p:=Option.some.inj e
    subst e'
    exact ⟨hb,q⟩
theorem Inv.pinned {pins:List (Addr × Obj)} {σ:St} {H:Hp} {s:Shared} {fp:List Addr} (I:Inv X pins σ H s) (hf:∀ b ∈ fp,FpOk X pins H b) (ho:∀ b ∈ fp,∃ o,s.heap.get? b = some o ∧ ∀ v,o.data ≠ .cell v):Inv X (pins ++ pinsAt fp s.heap) σ H s :=
  I.pins_of fun p hp=>(List.mem_append.mp hp).elim (fun z=>I.pin p (List.mem_append_right _ z)) fun z=>by
    obtain ⟨hb,e⟩:=of_pinsAt z
    obtain ⟨f0,f1,f2,_⟩:=hf p.1 hb
    obtain ⟨o,e',d⟩:=ho p.1 hb
    rw [e] at e'; cases e'
    exact ⟨e,f0,f1,f2,d⟩
theorem Inv.unpinned {pins pl:List (Addr × Obj)} {σ:St} {H:Hp} {s:Shared} (I:Inv X (pins ++ pl) σ H s):Inv X pins σ H s:=I.pins_of fun p hp=>I.pin p (List.mem_append_right _ (List.mem_append_left _ hp))
theorem ps_for {iter:Expr} {body:List Stmt} {wi:TI} {g:TG} {tb:TS} {pos:Pos} (hp:PassesOwn (model X.prog X.w) X.A X.env X.xe) (hc:X.calm = true) (hi:PI X tg iter wi) (hg:PG X tg g) (hb:PSs X body tb)
    (hs:∀ x,foldedSetIterable iter X.env x = pure x:=by intro _; rfl):PS X (.For tg iter body [] pos) (tFor wi g tb):=by
  intro pins s σ H D I h
  refine wpAny_For (thn (hi pins s σ H _ I h) fun v s1 h1=>thn h1 fun itv s2 h2=>?_) hs
  obtain ⟨it,fp,tn,J,H2,e,I2,T,st2,f2,W,⟨m0,w0⟩,turn⟩:=h2
  subst e
  have stat:∀ {H':Hp},(∀ b ∈ fp,H' b = none) → ∀ b ∈ fp,FpOk X pins H' b:=fun hn b hb=>⟨hn b hb,(f2 b hb).2⟩
  refine codeAny_forLoop_any (fun n s'=>∃ i σ' H',Inv X pins σ' H' s' ∧ tn i s'.heap ∧ (∀ b ∈ fp,H' b = none) ∧ W i n σ' H') ?_ m0 ⟨0,σ,H2,I2,st2,fun b hb=>(f2 b hb).1,w0⟩
  rintro n s3 ⟨i,σ3,H3,I3,st3,fr3,w3⟩
  rcases turn i n σ3 H3 w3 with ⟨stop,qn⟩ | ⟨go,N,hN,step⟩
  · refine wpAny_passesOwn hp (thn (T.done X rfl rfl rfl hc i pins s3 σ3 H3 X.xe I3 (stat fr3) st3 stop) fun r s4 ⟨hr,I4⟩=>?_)
    subst hr
    exact wpAny_execs_nil ⟨σ3,H3,I4,qn⟩
  · refine wpAny_passesOwn hp (thn (T.item X rfl rfl rfl hc i pins s3 σ3 H3 X.xe I3 (stat fr3) st3 go) fun r s4 ⟨u,hr,h4⟩=>?_)
    subst hr
    refine wpAny_passesOwn hp (thn h4 fun _ s5 ⟨x,H5,I5,r5,y5,st5,fr5⟩=>?_)
    have I5':=I5.pinned (stat fr5) (T.obj _ _ st5)
    refine wpAny_passesOwn hp (thn (hg _ s5 σ3 H5 x u _ I5' r5 (step x H5 y5)) fun _ s6 ⟨σ6,H6,I6,q6⟩=>?_)
    refine wpAny_passesOwn hp (thn (hb _ s6 σ6 H6 _ I6 q6) fun f s7 q7=>?_)
    have again:∀ {σ7:St} {H7:Hp},Inv X (pins ++ pinsAt fp s5.heap) σ7 H7 s7 → N σ7 H7 → ∃ m,m < n ∧ ∃ i σ' H',Inv X pins σ' H' s7 ∧ tn i s7.heap ∧ (∀ b ∈ fp,H' b = none) ∧ W i m σ' H':=fun {σ7 H7} I7 n7=>by
      obtain ⟨m',hm,w7⟩:=hN σ7 H7 n7
      refine ⟨m',hm,i + 1,σ7,H7,I7.unpinned,T.keep _ _ _ st5 fun b hb o e=>(I7.pin (b,o) (List.mem_append_right _ (List.mem_append_right _ (mem_pinsAt hb e)))).1,fun b hb=>?_,w7⟩
      obtain ⟨o,e,d⟩:=T.obj _ _ st5 b hb
      exact (I7.pin (b,o) (List.mem_append_right _ (List.mem_append_right _ (mem_pinsAt hb e)))).2.1
    cases f with
    | next=>obtain ⟨σ7,H7,I7,n7⟩:=q7; exact again I7 n7
    | cont=>obtain ⟨σ7,H7,I7,n7⟩:=q7; exact again I7 n7
    | brk=>obtain ⟨σ7,H7,I7,q7⟩:=q7; exact ⟨σ7,H7,I7.unpinned,q7⟩
    | ret v=>obtain ⟨x7,σ7,H7,I7,r7,q7⟩:=q7; exact ⟨x7,σ7,H7,I7.unpinned,r7,q7⟩
end
theorem for_list {K:PySem.W.Frag} {a:Addr} {xs:List V} {g:TG} {tb:TS} {D:Ends} {σ:St} {H:Hp} (Pv:Nat → St → Hp → Prop) (h0:Pv 0 σ H) (hl:∀ i σ H,i ≤ xs.length → Pv i σ H → SqL K H a xs)
    (hs:∀ i x σ H,xs[i]? = some x → Pv i σ H → g x σ H fun σ2 H2=>tb { D with nx:=Pv (i + 1),ct:=Pv (i + 1),bk:=D.nx } σ2 H2) (hd:∀ σ H,Pv xs.length σ H → D.nx σ H) :
    ∃ W:Nat → Nat → St → Hp → Prop,(∃ m,W 0 m σ H) ∧ ∀ i m σ H,W i m σ H →
      ((Itl K a).stop i H ∧ D.nx σ H) ∨ ((Itl K a).go i H ∧ ∃ N:St → Hp → Prop,(∀ σ' H',N σ' H' → ∃ m',m' < m ∧ W (i + 1) m' σ' H') ∧ ∀ x H',(Itl K a).yld i H x H' → g x σ H' fun σ2 H2=>tb { D with nx:=N,ct:=N,bk:=D.nx } σ2 H2):=by
  refine ⟨fun i m σ H=>m = xs.length - i ∧ i ≤ xs.length ∧ Pv i σ H,⟨xs.length,by simp,Nat.zero_le _,h0⟩,?_⟩
  rintro i m σ H ⟨rfl,hi,p⟩
  have q:=hl i σ H hi p
  by_cases hlt:i < xs.length
  · refine .inr ⟨⟨xs,xs[i],q,by simp [hlt]⟩,Pv (i + 1),fun σ' H' p'=>⟨xs.length - (i + 1),by omega,rfl,hlt,p'⟩,fun x H' y=>?_⟩
    obtain ⟨e,y⟩:=y
    subst e
    exact hs i x σ _ (y xs q) p
  · have e:i = xs.length:=by omega
    subst e
    exact .inl ⟨⟨xs,q,Nat.le_refl _⟩,hd σ H p⟩
theorem for_range {lo:Int} {n:Nat} {g:TG} {tb:TS} {D:Ends} {σ:St} {H:Hp} (Pv:Nat → St → Hp → Prop) (h0:Pv 0 σ H)
    (hs:∀ i σ H,i < n → Pv i σ H → g (.int (lo + i)) σ H fun σ2 H2=>tb { D with nx:=Pv (i + 1),ct:=Pv (i + 1),bk:=D.nx } σ2 H2) (hd:∀ σ H,Pv n σ H → D.nx σ H) :
    ∃ W:Nat → Nat → St → Hp → Prop,(∃ m,W 0 m σ H) ∧ ∀ i m σ H,W i m σ H →
      ((Itr lo n).stop i H ∧ D.nx σ H) ∨ ((Itr lo n).go i H ∧ ∃ N:St → Hp → Prop,(∀ σ' H',N σ' H' → ∃ m',m' < m ∧ W (i + 1) m' σ' H') ∧ ∀ x H',(Itr lo n).yld i H x H' → g x σ H' fun σ2 H2=>tb { D with nx:=N,ct:=N,bk:=D.nx } σ2 H2):=by
  refine ⟨fun i m σ H=>m = n - i ∧ i ≤ n ∧ Pv i σ H,⟨n,by simp,Nat.zero_le _,h0⟩,?_⟩
  rintro i m σ H ⟨rfl,hi,p⟩
  by_cases hlt:i < n
  · refine .inr ⟨hlt,Pv (i + 1),fun σ' H' p'=>⟨n - (i + 1),by omega,rfl,hlt,p'⟩,fun x H' y=>?_⟩
    obtain ⟨e,y⟩:=y
    subst e y
    exact hs i σ _ hlt p
  · have e:i = n:=by omega
    subst e
    exact .inl ⟨Nat.le_refl _,hd σ H p⟩
end L2
namespace L2
open PySem PySem.Spec PyProof.Rows
abbrev R2:=V → V → Hp → VK → Prop
def OpR (X:Cx) (f:Value → Value → Sem Value) (r:R2):Prop :=
  ∀ (pins:List (Addr × Obj)) (s:Shared) (σ:St) (H:Hp) (x y:V) (v u:Value) (Q:VK),Inv X pins σ H s → RelV x v → RelV y u → r x y H Q →
    wpAny (model X.prog X.w) X.A (f v u) (EP X pins σ Q) X.xe s
def CallR (X:Cx) (f:Value) (r:List V → Hp → VK → Prop):Prop :=
  ∀ (pins:List (Addr × Obj)) (s:Shared) (σ:St) (H:Hp) (xs:List V) (us:List Value) (Q:VK),Inv X pins σ H s → Vals xs us → r xs H Q →
    wpAny (model X.prog X.w) X.A (call f us) (EP X pins σ Q) X.xe s
def tOp (r:R2) (ta tb:TE):TE:=fun σ H Q=>ta σ H fun x H1=>tb σ H1 fun y H2=>r x y H2 Q
def rI (C:Int → Int → Prop) (g:Int → Int → V):R2:=fun x y H Q=>∃ i j,x = .int i ∧ y = .int j ∧ C i j ∧ Q (g i j) H
def rI0 (g:Int → Int → V):R2:=fun x y H Q=>∃ i j,x = .int i ∧ y = .int j ∧ Q (g i j) H
section
variable {X:Cx} {a b c:Expr} {ta tb tc:TE} {pos:Pos}
theorem binT (ha:PE X a ta) (hb:PE X b tb) {pins:List (Addr × Obj)} {s:Shared} {σ:St} {H:Hp} {R:V → V → Hp → Prop} (I:Inv X pins σ H s)
    (h:ta σ H fun x H1=>tb σ H1 fun y H2=>R x y H2) {Q:Value → Shared → Prop} {f:Value → Value → Sem Value}
    (hf:∀ v u s2 x y H2,Inv X pins σ H2 s2 → RelV x v → RelV y u → R x y H2 → wpAny (model X.prog X.w) X.A (f v u) Q X.xe s2) :
    wpAny (model X.prog X.w) X.A (eval a X.env) (fun v s₁=>wpAny (model X.prog X.w) X.A (eval b X.env) (fun u s₂=>wpAny (model X.prog X.w) X.A (f v u) Q X.xe s₂) X.xe s₁) X.xe s:=by
  refine thn (ha pins s σ H _ I h) fun v s1 ⟨x,H1,I1,r1,q1⟩=>?_
  refine thn (hb pins s1 σ H1 _ I1 q1) fun u s2 ⟨y,H2,I2,r2,q2⟩=>?_
  exact hf v u s2 x y H2 I2 r1 r2 q2
theorem pe_op {op:Operator} {r:R2} (ho:OpR X (binaryOp op) r) (ha:PE X a ta) (hb:PE X b tb):PE X (.BinOp a op b pos) (tOp r ta tb):=by
  intro pins s σ H Q I h
  exact wpAny_BinOp (binT ha hb I h fun v u s2 x y H2 I2 rx ry q=>ho pins s2 σ H2 x y v u Q I2 rx ry q)
theorem opI {f:Value → Value → Sem Value} {C:Int → Int → Prop} {g:Int → Int → Int}
    (rule:∀ (i j:Int) (t u:Tok) (s:Shared) (Q:Value → Shared → Prop) (E:Value → Shared → Prop),C i j → Q (.int (g i j) s.toks) { s with toks:=s.toks + 1 } → wpAny (model X.prog X.w) X.A (f (.int i t) (.int j u)) Q E s) :
    OpR X f (rI C fun i j=>.int (g i j)):=by
  intro pins s σ H x y v u Q I rx ry h
  obtain ⟨i,j,rfl,rfl,hc,q⟩:=h
  obtain ⟨t,rfl⟩:=rx
  obtain ⟨t',rfl⟩:=ry
  exact rule i j t t' s _ _ hc ⟨.int (g i j),H,I.tok _,⟨_,rfl⟩,q⟩
theorem opI0 {f:Value → Value → Sem Value} {g:Int → Int → Int}
    (rule:∀ (i j:Int) (t u:Tok) (s:Shared) (Q:Value → Shared → Prop) (E:Value → Shared → Prop),Q (.int (g i j) s.toks) { s with toks:=s.toks + 1 } → wpAny (model X.prog X.w) X.A (f (.int i t) (.int j u)) Q E s) :
    OpR X f (rI0 fun i j=>.int (g i j)):=by
  intro pins s σ H x y v u Q I rx ry h
  obtain ⟨i,j,rfl,rfl,q⟩:=h
  obtain ⟨t,rfl⟩:=rx
  obtain ⟨t',rfl⟩:=ry
  exact rule i j t t' s _ _ ⟨.int (g i j),H,I.tok _,⟨_,rfl⟩,q⟩
theorem opB0 {f:Value → Value → Sem Value} {g:Int → Int → Bool}
    (rule:∀ (i j:Int) (t u:Tok) (s:Shared) (Q:Value → Shared → Prop) (E:Value → Shared → Prop),Q (.bool (g i j)) s → wpAny (model X.prog X.w) X.A (f (.int i t) (.int j u)) Q E s) :
    OpR X f (rI0 fun i j=>.bl (g i j)):=by
  intro pins s σ H x y v u Q I rx ry h
  obtain ⟨i,j,rfl,rfl,q⟩:=h
  obtain ⟨t,rfl⟩:=rx
  obtain ⟨t',rfl⟩:=ry
  exact rule i j t t' s _ _ ⟨.bl (g i j),H,I,rfl,q⟩
def CPow (i j:Int):Prop:=0 ≤ j ∧ j ≤ 1000000 ∧ i.natAbs < 2 ^ 64
def CMul (i j:Int):Prop:=(-(2 ^ 64) < i ∧ i < 2 ^ 64) ∨ (-(2 ^ 64) < j ∧ j < 2 ^ 64)
theorem CMul.ok {i j:Int} (h:CMul i j):IntMulOk i j:=by
  rcases h with ⟨h1,h2⟩ | ⟨h1,h2⟩
  · exact .of_left (intBits_le_64 h1 h2)
  · exact .of_right (intBits_le_64 h1 h2)
theorem op_add:OpR X (binaryOp .Add) (rI0 fun i j=>.int (i + j)):=opI0 fun _ _ _ _ _ _ _ q=>add_int q
theorem op_mul:OpR X (binaryOp .Mult) (rI CMul fun i j=>.int (i * j)):=opI fun _ _ _ _ _ _ _ hc q=>mul_int q hc.ok
theorem op_mod:OpR X (binaryOp .Mod) (rI (fun _ j=>0 < j) fun i j=>.int (i % j)):=opI fun i j _ _ _ _ _ hc q=>by
  have h1:(0:Int) < j:=hc
  exact mod_int' (by omega) (by rw [Int.fmod_eq_emod_of_nonneg i (by omega)]; exact q)
theorem op_pow:OpR X (binaryOp .Pow) (rI CPow fun i j=>.int (i ^ j.toNat)):=opI fun _ _ _ _ _ _ _ hc q=>pow_int_small hc.1 hc.2.1 hc.2.2 q
end
def scal:V → V → Bool
  | .non,.non=>true | .non,.int _=>true | .int _,.non=>true | .non,.bl _=>true | .bl _,.non=>true | .non,.str _=>true | .str _,.non=>true
  | .int _,.int _=>true | .bl _,.bl _=>true | .str _,.str _=>true | .byt _,.byt _=>true
  | .int _,.str _=>true | .str _,.int _=>true | .bl _,.str _=>true | .str _,.bl _=>true
  | _,_=>false
def rEq:R2:=fun x y H Q=>scal x y = true ∧ Q (.bl (decide (x = y))) H
def rNe:R2:=fun x y H Q=>scal x y = true ∧ Q (.bl (!decide (x = y))) H
theorem dec_int {i j:Int}:decide (V.int i = V.int j) = (i == j):=by
  rw [Bool.eq_iff_iff]
  simp
theorem dec_bl {i j:Bool}:decide (V.bl i = V.bl j) = (i == j):=by
  rw [Bool.eq_iff_iff]
  simp
theorem dec_str {i j:Str}:decide (V.str i = V.str j) = (i == j):=by
  rw [Bool.eq_iff_iff]
  simp
theorem dec_byt {i j:Array UInt8}:decide (V.byt i = V.byt j) = (i.toList == j.toList):=by
  rw [Bool.eq_iff_iff]
  cases i
  cases j
  simp
section
variable {X:Cx} {a b c:Expr} {ta tb tc:TE} {pos:Pos}
theorem fin_bl {pins:List (Addr × Obj)} {σ:St} {H:Hp} {s:Shared} {Q:VK} {k k':Bool} (I:Inv X pins σ H s) (q:Q (.bl k) H) (e:k = k'):EP X pins σ Q (.bool k') s:=by
  subst e
  exact ⟨.bl k,H,I,rfl,q⟩
theorem op_eq:OpR X (compareOp .Eq) rEq:=by
  intro pins s σ H x y v u Q I rx ry h
  obtain ⟨hs,q⟩:=h
  cases x with
  | non =>
    cases rx
    cases y with
    | non=>cases ry; exact PySem.EqNone.eq_none_none (fin_bl I q (by simp))
    | bl j=>cases ry; exact PySem.EqNone.eq_none_bool (fin_bl I q (by simp))
    | int j=>obtain ⟨t',rfl⟩:=ry; exact PySem.EqNone.eq_none_int (fin_bl I q (by simp))
    | str j=>obtain ⟨t',rfl⟩:=ry; exact PySem.EqNone.eq_none_str (fin_bl I q (by simp))
    | _=>exact absurd (show false = true from hs) Bool.false_ne_true
  | bl i =>
    cases rx
    cases y with
    | non=>cases ry; exact PySem.EqNone.eq_bool_none (fin_bl I q (by simp))
    | bl j=>cases ry; exact eq_bool (fin_bl I q dec_bl)
    | str j=>obtain ⟨t',rfl⟩:=ry; exact PySem.EqMixed.eq_bool_str (fin_bl I q (by simp))
    | _=>exact absurd (show false = true from hs) Bool.false_ne_true
  | int i =>
    obtain ⟨t,rfl⟩:=rx
    cases y with
    | non=>cases ry; exact PySem.EqNone.eq_int_none (fin_bl I q (by simp))
    | int j=>obtain ⟨t',rfl⟩:=ry; exact eq_int (fin_bl I q dec_int)
    | str j=>obtain ⟨t',rfl⟩:=ry; exact PySem.EqMixed.eq_int_str (fin_bl I q (by simp))
    | _=>exact absurd (show false = true from hs) Bool.false_ne_true
  | str i =>
    obtain ⟨t,rfl⟩:=rx
    cases y with
    | non=>cases ry; exact PySem.EqNone.eq_str_none (fin_bl I q (by simp))
    | bl j=>cases ry; exact PySem.EqMixed.eq_str_bool (fin_bl I q (by simp))
    | int j=>obtain ⟨t',rfl⟩:=ry; exact PySem.EqMixed.eq_str_int (fin_bl I q (by simp))
    | str j=>obtain ⟨t',rfl⟩:=ry; exact eq_str (fin_bl I q dec_str)
    | _=>exact absurd (show false = true from hs) Bool.false_ne_true
  | byt i =>
    obtain ⟨t,rfl⟩:=rx
    cases y with
    | byt j=>obtain ⟨t',rfl⟩:=ry; exact PySem.W.eq_bytes (fin_bl I q dec_byt)
    | _=>exact absurd (show false = true from hs) Bool.false_ne_true
  | _=>cases y <;> exact absurd (show false = true from hs) Bool.false_ne_true
theorem op_ne:OpR X (compareOp .NotEq) rNe:=by
  intro pins s σ H x y v u Q I rx ry h
  obtain ⟨hs,q⟩:=h
  cases x with
  | non =>
    cases rx
    cases y with
    | non=>cases ry; exact PySem.EqNone.ne_none_none (fin_bl I q (by simp))
    | bl j=>cases ry; exact PySem.EqNone.ne_none_bool (fin_bl I q (by simp))
    | int j=>obtain ⟨t',rfl⟩:=ry; exact PySem.EqNone.ne_none_int (fin_bl I q (by simp))
    | str j=>obtain ⟨t',rfl⟩:=ry; exact PySem.EqNone.ne_none_str (fin_bl I q (by simp))
    | _=>exact absurd (show false = true from hs) Bool.false_ne_true
  | bl i =>
    cases rx
    cases y with
    | non=>cases ry; exact PySem.EqNone.ne_bool_none (fin_bl I q (by simp))
    | bl j=>cases ry; exact ne_bool (fin_bl I q (congrArg not dec_bl))
    | str j=>obtain ⟨t',rfl⟩:=ry; exact PySem.EqMixed.ne_bool_str (fin_bl I q (by simp))
    | _=>exact absurd (show false = true from hs) Bool.false_ne_true
  | int i =>
    obtain ⟨t,rfl⟩:=rx
    cases y with
    | non=>cases ry; exact PySem.EqNone.ne_int_none (fin_bl I q (by simp))
    | int j=>obtain ⟨t',rfl⟩:=ry; exact ne_int (fin_bl I q (congrArg not dec_int))
    | str j=>obtain ⟨t',rfl⟩:=ry; exact PySem.EqMixed.ne_int_str (fin_bl I q (by simp))
    | _=>exact absurd (show false = true from hs) Bool.false_ne_true
  | str i =>
    obtain ⟨t,rfl⟩:=rx
    cases y with
    | non=>cases ry; exact PySem.EqNone.ne_str_none (fin_bl I q (by simp))
    | bl j=>cases ry; exact PySem.EqMixed.ne_str_bool (fin_bl I q (by simp))
    | int j=>obtain ⟨t',rfl⟩:=ry; exact PySem.EqMixed.ne_str_int (fin_bl I q (by simp))
    | str j=>obtain ⟨t',rfl⟩:=ry; exact ne_str (fin_bl I q (congrArg not dec_str))
    | _=>exact absurd (show false = true from hs) Bool.false_ne_true
  | byt i =>
    obtain ⟨t,rfl⟩:=rx
    cases y with
    | byt j=>obtain ⟨t',rfl⟩:=ry; exact PySem.W.ne_bytes (fin_bl I q (congrArg not dec_byt))
    | _=>exact absurd (show false = true from hs) Bool.false_ne_true
  | _=>cases y <;> exact absurd (show false = true from hs) Bool.false_ne_true
theorem op_lt:OpR X (compareOp .Lt) (rI0 fun i j=>.bl (decide (i < j))):=opB0 fun _ _ _ _ _ _ _ q=>lt_int q
theorem op_le:OpR X (compareOp .LtE) (rI0 fun i j=>.bl (decide (i ≤ j))):=opB0 fun _ _ _ _ _ _ _ q=>le_int q
theorem op_gt:OpR X (compareOp .Gt) (rI0 fun i j=>.bl (decide (j < i))):=opB0 fun _ _ _ _ _ _ _ q=>gt_int q
theorem op_in_str:OpR X (compareOp .In) (fun x y H Q=>∃ i j,x = .str i ∧ y = .str j ∧ Q (.bl (!(Builtin.Str.occurrences j i 0 j.length 1).isEmpty)) H):=by
  intro pins s σ H x y v u Q I rx ry h
  obtain ⟨i,j,rfl,rfl,q⟩:=h
  obtain ⟨t,rfl⟩:=rx
  obtain ⟨t',rfl⟩:=ry
  exact in_str (fin_bl I q rfl)
theorem op_isN:OpR X (compareOp .Is) (fun x y H Q=>y = .non ∧ Q (.bl (decide (x = .non))) H):=by
  intro pins s σ H x y v u Q I rx ry h
  obtain ⟨rfl,q⟩:=h
  cases ry
  refine is_none_gen (fin_bl I q ?_)
  cases x <;> first
    | (cases rx; rfl)
    | (obtain ⟨t,rfl⟩:=rx; rfl)
theorem OpR.or {f:Value → Value → Sem Value} {r r':R2} (h:OpR X f r) (h':OpR X f r'):OpR X f (fun x y H Q=>r x y H Q ∨ r' x y H Q):=by
  intro pins s σ H x y v u Q I rx ry q
  rcases q with q | q
  · exact h pins s σ H x y v u Q I rx ry q
  · exact h' pins s σ H x y v u Q I rx ry q
theorem nomark (b:Expr) {op:CmpOp} (h:op ≠ .In:=by decide) (h2:op ≠ .NotIn:=by decide):behindInMarks op b = false:=by
  have e1:(op == CmpOp.In) = false:=by cases op <;> first | rfl | exact absurd rfl h
  have e2:(op == CmpOp.NotIn) = false:=by cases op <;> first | rfl | exact absurd rfl h2
  cases b <;> simp [behindInMarks,e1,e2]
theorem pe_cmpR {op:CmpOp} {r:R2} (ho:OpR X (compareOp op) r) (ha:PE X a ta) (hb:PE X b tb) (hm:behindInMarks op b = false):PE X (.Compare a [op] [b] pos) (tOp r ta tb):=by
  intro pins s σ H Q I h
  exact wpAny_Compare1 (binT ha hb I h fun v u s2 x y H2 I2 rx ry q=>ho pins s2 σ H2 x y v u Q I2 rx ry q) hm
def tTest (t:TE):TT:=fun σ H Q=>t σ H fun x H'=>∃ k,x = .bl k ∧ Q k H'
theorem pt_cmpR {op:CmpOp} {r:R2} (ho:OpR X (compareOp op) r) (ha:PE X a ta) (hb:PE X b tb) (hm:behindInMarks op b = false):PT X (.Compare a [op] [b] pos) (tTest (tOp r ta tb)):=by
  intro pins s σ H Q I h
  refine wpAny_isTrue_Compare1 (thn (ha pins s σ H _ I h) fun v s1 ⟨x,H1,I1,r1,q1⟩=>thn (hb pins s1 σ H1 _ I1 q1) fun u s2 ⟨y,H2,I2,r2,q2⟩ =>
    thn (ho pins s2 σ H2 x y v u _ I2 r1 r2 q2) fun c s3 ⟨z,H3,I3,r3,k,e,q3⟩=>?_) hm
  subst e
  cases r3
  exact wpAny_truthy_bool ⟨H3,I3,q3⟩
def tChain (r r':R2) (ta tb tc:TE):TE:=fun σ H Q=>ta σ H fun x H1=>tb σ H1 fun y H2=>r x y H2 fun z H3=>∃ k,z = .bl k ∧
  (if k = true then tc σ H3 fun w' H4=>r' y w' H4 Q else Q (.bl false) H3)
theorem pe_chain {op op':CmpOp} {r r':R2} (ho:OpR X (compareOp op) r) (ho':OpR X (compareOp op') r') (ha:PE X a ta) (hb:PE X b tb) (hc:PE X c tc)
    (hm:lastMarks [op,op'] [b,c] = false:=by with_unfolding_all rfl):PE X (.Compare a [op,op'] [b,c] pos) (tChain r r' ta tb tc):=by
  intro pins s σ H Q I h
  refine Compare_chain (thn (ha pins s σ H _ I h) fun v s1 ⟨x,H1,I1,r1,q1⟩=>chain_link (thn (hb pins s1 σ H1 _ I1 q1) fun u s2 ⟨y,H2,I2,r2,q2⟩ =>
    thn (ho pins s2 σ H2 x y v u _ I2 r1 r2 q2) fun d s3 ⟨z,H3,I3,r3,k,e,q3⟩=>?_)) hm
  subst e
  cases r3
  refine wpAny_truthy_bool ?_
  cases k with
  | false=>exact ite_ff ⟨.bl false,H3,I3,rfl,q3⟩
  | true=>exact ite_tt (chain_last (thn (hc pins s3 σ H3 _ I3 q3) fun w' s4 ⟨z',H4,I4,r4,q4⟩=>ho' pins s4 σ H4 y z' u w' Q I4 r2 r4 q4))
theorem pt_chain {op op':CmpOp} {r r':R2} (ho:OpR X (compareOp op) r) (ho':OpR X (compareOp op') r') (ha:PE X a ta) (hb:PE X b tb) (hc:PE X c tc)
    (hm:lastMarks [op,op'] [b,c] = false:=by with_unfolding_all rfl):PT X (.Compare a [op,op'] [b,c] pos) (tTest (tChain r r' ta tb tc)):=by
  intro pins s σ H Q I h
  refine isTrue_chain (thn (ha pins s σ H _ I h) fun v s1 ⟨x,H1,I1,r1,q1⟩=>test_link (thn (hb pins s1 σ H1 _ I1 q1) fun u s2 ⟨y,H2,I2,r2,q2⟩ =>
    thn (ho pins s2 σ H2 x y v u _ I2 r1 r2 q2) fun d s3 ⟨z,H3,I3,r3,k,e,q3⟩=>?_)) hm
  subst e
  cases r3
  refine wpAny_truthy_bool ?_
  cases k with
  | false =>
    obtain ⟨k',e',q'⟩:=q3
    cases e'
    exact ite_ff ⟨H3,I3,q'⟩
  | true =>
    refine ite_tt (test_last (thn (hc pins s3 σ H3 _ I3 q3) fun w' s4 ⟨z',H4,I4,r4,q4⟩=>thn (ho' pins s4 σ H4 y z' u w' _ I4 r2 r4 q4) fun d' s5 ⟨z2,H5,I5,r5,k2,e2,q5⟩=>?_))
    subst e2
    cases r5
    exact wpAny_truthy_bool ⟨H5,I5,q5⟩
theorem line63:(sizeLine:Nat) < 2 ^ 63:=by rw [sizeLine_eq]; decide
theorem op_add_str:OpR X (binaryOp .Add) (fun x y H Q=>∃ i j,x = .str i ∧ y = .str j ∧ i.length + j.length ≤ sizeLine ∧ Q (.str (i ++ j)) H):=by
  intro pins s σ H x y v u Q I rx ry h
  obtain ⟨i,j,rfl,rfl,hz,q⟩:=h
  obtain ⟨t,rfl⟩:=rx
  obtain ⟨t',rfl⟩:=ry
  exact add_str (fun t' tk=>⟨.str (i ++ j),H,I.tok _,⟨_,rfl⟩,q⟩) hz
theorem vals1 {x:V} {us:List Value} (r:Vals [x] us):∃ u,us = [u] ∧ RelV x u:=by
  cases r with
  | cons r1 r2=>cases r2; exact ⟨_,rfl,r1⟩
theorem vals2 {x y:V} {us:List Value} (r:Vals [x,y] us):∃ u w',us = [u,w'] ∧ RelV x u ∧ RelV y w':=by
  cases r with
  | cons r1 r2 =>
    cases r2 with
    | cons r3 r4=>cases r4; exact ⟨_,_,rfl,r1,r3⟩
theorem call_abs:CallR X (.builtin "abs") (fun xs H Q=>∃ i,xs = [.int i] ∧ Q (.int (if i < 0 then -i else i)) H):=by
  intro pins s σ H xs us Q I r h
  obtain ⟨i,rfl,q⟩:=h
  obtain ⟨u,rfl,t,rfl⟩:=vals1 r
  exact call_abs_int fun u tk=>⟨.int (if i < 0 then -i else i),H,I.tok _,⟨_,rfl⟩,q⟩
theorem call_str_int:CallR X (.type "str") (fun xs H Q=>∃ i,xs = [.int i] ∧ i.natAbs.log2 < 1920 ∧ Q (.str (toString i)) H):=by
  intro pins s σ H xs us Q I r h
  obtain ⟨i,rfl,hz,q⟩:=h
  obtain ⟨u,rfl,t,rfl⟩:=vals1 r
  exact PySem.P.str_of_int hz ⟨.str _,H,I.tok _,⟨_,rfl⟩,q⟩
end
end L2
namespace L2
open PySem PySem.Spec PyProof.Rows
structure ObjM (h:Heap) (x dx C:Addr) (mA:Str → Option Value):Prop where
  obj:h.get? x = some (PySem.W.instObj C dx)
  ns:h.Ns1 dx mA
  ne:dx ≠ x
theorem lookIn_ns {h:Heap} {dx:Addr} {mA:Str → Option Value} (n:h.Ns1 dx mA):∃ od,h.get? dx = some od ∧ ∀ name,PySem.W.lookIn name od = some (mA name):=by
  obtain ⟨o,es,ep,ho,hd,hk,_,hm⟩:=n
  refine ⟨o,ho,fun name=>?_⟩
  have e:=hm name
  unfold nsFind findBy at e
  rw [← Array.find?_toList] at e
  unfold PySem.W.lookIn
  rw [hd]
  dsimp only
  split
  · rename_i y q
    rw [q] at e
    exact congrArg some e
  · rename_i q
    rw [q] at e
    have a:es.toList.any (·.refKey) = false:=by
      rw [List.any_eq_false]
      intro y hy
      obtain ⟨z,t,hkey⟩:=hk y (Array.mem_toList_iff.mp hy)
      simp [DictEntry.refKey,hkey]
    have a':¬ es.toList.any (·.refKey) = true:=by rw [a]; exact Bool.false_ne_true
    rw [if_neg a']
    exact congrArg some e
theorem ObjM.look {h:Heap} {x dx C:Addr} {mA:Str → Option Value} (I:ObjM h x dx C mA):∃ od,PySem.W.InstAt h x (PySem.W.instObj C dx) C (some od) ∧ ∀ name,PySem.W.lookIn name od = some (mA name) :=
  let ⟨od,ho,hl⟩:=lookIn_ns I.ns
  ⟨od,⟨I.obj,rfl,rfl,ho⟩,hl⟩
section
variable {prog:Program} {w:World} {A:Around} {E:Value → Shared → Prop} {s:Shared} {K:PySem.W.Frag} {x dx C f:Addr} {mA:Str → Option Value} {name:Str} {v:Value}
end
section
variable {P:Program} {w:World} {H H':Hp} {h h':Heap} {a C dx:Addr} {fs fs':List (Str × V)}
theorem ins_get (hok:HOk P w H h) (e:H a = some (.ins C dx fs)):∃ mA,ObjM h a dx C mA ∧ (∀ f,RelO (fs.lookup f) (mA f)) ∧ PySem.Within mA (fs.map (·.1)) ∧ fs.length ≤ 1000 ∧ H dx = some (.own a):=by
  obtain ⟨d,z,ne,ob,mA,n,r,q⟩:=(show ObjOk P w H h a (.ins C dx fs) from hok a _ e)
  exact ⟨mA,⟨ob,n,ne⟩,r,q,z,d⟩
end
structure Cls (K:PySem.W.Frag) (C:Addr):Prop where
  pg:PySem.W.plainGet K C Str.empty = true
  hd:PySem.W.hasDictIn K C = true
  po:PySem.W.plainOver K C = true
  sa:PySem.W.findIn K (.ref C) "__setattr__" = some (some (.builtin "object.__setattr__"))
theorem Cls.get {K:PySem.W.Frag} {C:Addr} (c:Cls K C) (f:Str):PySem.W.plainGet K C f = true:=c.pg
section
variable {X:Cx} {pins:List (Addr × Obj)} {σ:St} {H:Hp} {s:Shared} {a C dx:Addr} {fs:List (Str × V)} {f:Str} {v:V} {A:Around} {E:Value → Shared → Prop}
theorem Inv.made (I:Inv X pins σ H s):Inv X pins σ (upd (upd H s.heap.objs.size (.own (s.heap.objs.size + 1))) (s.heap.objs.size + 1) (.ins C s.heap.objs.size []))
    { s with heap:=(s.heap.push PySem.W.emptyDict).push (PySem.W.instObj C s.heap.objs.size) }:=by
  have e1:(s.heap.push PySem.W.emptyDict).get? s.heap.objs.size = some PySem.W.emptyDict:=Heap.get?_push_size s.heap rfl
  have e2:((s.heap.push PySem.W.emptyDict).push (PySem.W.instObj C s.heap.objs.size)).get? (s.heap.objs.size + 1) = some (PySem.W.instObj C s.heap.objs.size):=by
    have:=Heap.get?_push_size (s.heap.push PySem.W.emptyDict) (o:=PySem.W.instObj C s.heap.objs.size) rfl
    rwa [Heap.size_push] at this
  have e3:(s.heap.push PySem.W.emptyDict).Ns s.heap.objs.size (fun _=>none):=⟨PySem.W.emptyDict,#[],_,e1,rfl,(fun e he=>absurd he (by simp)),fun _=>rfl⟩
  have I1:=I.laid (a:=s.heap.objs.size) (o:=.own (s.heap.objs.size + 1)) (h':=s.heap.push PySem.W.emptyDict) (t':=s.toks) (fun b u q=>Heap.get?_push_of_some _ q) (Nat.le_refl _) ⟨_,e1⟩
  refine I1.laid (a:=s.heap.objs.size + 1) (o:=.ins C s.heap.objs.size []) (t':=s.toks) (fun b u q=>Heap.get?_push_of_some _ q) (Nat.le_of_eq (Heap.size_push _ _)) ?_
  have ne:s.heap.objs.size ≠ s.heap.objs.size + 1:=Nat.ne_of_lt (Nat.lt_succ_self _)
  refine ⟨by rw [upd_ne ne,upd_same],Nat.zero_le _,ne,e2,fun _=>none,(Heap.Ns1.of_empty e3).at fun o q=>Heap.get?_push_of_some _ q,fun _=>True.intro,fun y hy=>absurd rfl hy⟩
end
section
variable {X:Cx} {o e value:Expr} {f:Str} {pos pos' tpos:Pos} {ta tv:TE}
end
section
variable {X:Cx} {pins:List (Addr × Obj)} {σ:St} {H:Hp} {s:Shared} {A:Around} {E:Value → Shared → Prop} {Q:Value → Shared → Prop} {c:Value} {b:Bool}
inductive TyOf (K:PySem.W.Frag) (H:Hp):V → Value → Prop where
  | non:TyOf K H .non (.type "NoneType")
  | bl (x:Bool):TyOf K H (.bl x) (.type "bool")
  | int (i:Int):TyOf K H (.int i) (.type "int")
  | str (x:Str):TyOf K H (.str x) (.type "str")
  | flt (x:UInt64):TyOf K H (.flt x) (.type "float")
  | lst {a:Addr} {xs:List V} (e:H a = some (.lst xs)):TyOf K H (.ref a) (.type "list")
  | frz {a:Addr} {o:Obj} {xs:List V} (e:H a = some (.frz o (.lst xs))):TyOf K H (.ref a) (.type "list")
  | tup {a:Addr} {xs:List V} (e:H a = some (.tup xs)):TyOf K H (.ref a) (.type "tuple")
  | dK {a:Addr} {kvs:List (Key × V)} (e:H a = some (.dK kvs)):TyOf K H (.ref a) (.type "dict")
  | dT {a:Addr} {kvs:List (List Key × V)} (e:H a = some (.dT kvs)):TyOf K H (.ref a) (.type "dict")
  | ins {a C dx:Addr} {fs:List (Str × V)} (e:H a = some (.ins C dx fs)) (cl:Cls K C) (ha:PySem.W.findIn K (.ref C) "__class__" = some (some (.builtin "object.__class__")))
      (hn:PySem.W.specialIn K (.builtin "object.__class__") "__get__" = some (some (.builtin "getset_descriptor.__get__"))) (htk:PySem.W.takesIn K (.builtin "object.__class__") = some true)
      (hm:PySem.W.mroIn K C (.type "object") = some true):TyOf K H (.ref a) (.ref C)
theorem isinst_ok {x:V} {u t:Value} (I:Inv X pins σ H s) (rx:RelV x u) (ty:TyOf X.K H x t) (e:PySem.W.kitOne X.K t c = some b) (h:∀ tk,Q (.bool b) { s with toks:=tk }) :
    wpAny (model X.prog X.w) A (call (.builtin "isinstance") [u,c]) Q E s:=by
  cases ty with
  | non=>cases (show u = Value.none from rx); exact PySem.W.kia_one PySem.W.kitx_none I.kIn True.intro e (fun z=>nomatch z) h
  | bl y=>cases (show u = Value.bool y from rx); exact PySem.W.kia_one PySem.W.kitx_bool I.kIn True.intro e (fun z=>nomatch z) h
  | int i=>obtain ⟨t,q⟩:=(show ∃ t,u = Value.int i t from rx); cases q; exact PySem.W.kia_one PySem.W.kitx_int I.kIn True.intro e (fun z=>nomatch z) h
  | str y=>obtain ⟨t,q⟩:=(show ∃ t,u = Value.str y t from rx); cases q; exact PySem.W.kia_one PySem.W.kitx_str I.kIn True.intro e (fun z=>nomatch z) h
  | flt y=>obtain ⟨t,q⟩:=(show ∃ t,u = Value.float y t from rx); cases q; exact PySem.W.kia_one PySem.W.kitx_float I.kIn True.intro e (fun z=>nomatch z) h
  | @lst a xs ea =>
    cases (show u = Value.ref a from rx)
    obtain ⟨_,_,n,_,h1⟩:=(show ObjOk X.prog X.w H s.heap a (.lst xs) from I.hok a _ ea)
    exact PySem.W.kia_one PySem.W.kitx_list I.kIn ⟨_,h1,rfl⟩ e (fun z=>nomatch z) h
  | @frz a ob xs ea =>
    cases (show u = Value.ref a from rx)
    obtain ⟨_,_,_,n,_,h1⟩:=(show ObjOk X.prog X.w H s.heap a (.frz ob (.lst xs)) from I.hok a _ ea)
    exact PySem.W.kia_one PySem.W.kitx_list I.kIn ⟨_,h1,rfl⟩ e (fun z=>nomatch z) h
  | @tup a xs ea =>
    cases (show u = Value.ref a from rx)
    obtain ⟨_,_,_,p⟩:=(show ObjOk X.prog X.w H s.heap a (.tup xs) from I.hok a _ ea)
    obtain ⟨o,h1,h2,_⟩:=p
    exact PySem.W.kia_one PySem.W.kitx_tuple I.kIn ⟨o,h1,h2⟩ e (fun z=>nomatch z) h
  | @dK a kvs ea =>
    cases (show u = Value.ref a from rx)
    obtain ⟨_,_,vs,_,p⟩:=(show ObjOk X.prog X.w H s.heap a (.dK kvs) from I.hok a _ ea)
    obtain ⟨o,es,ep,h1,h2,_⟩:=p
    exact PySem.W.kia_one PySem.W.kitx_dict I.kIn ⟨o,h1,h2.1⟩ e (fun z=>nomatch z) h
  | @dT a kvs ea =>
    cases (show u = Value.ref a from rx)
    obtain ⟨_,_,xs,_,o,es,ep,h1,h2,_⟩:=(show ObjOk X.prog X.w H s.heap a (.dT kvs) from I.hok a _ ea)
    exact PySem.W.kia_one PySem.W.kitx_dict I.kIn ⟨o,h1,h2.1⟩ e (fun z=>nomatch z) h
  | @ins a C dx fs ea cl ha hn htk hm =>
    cases (show u = Value.ref a from rx)
    obtain ⟨mA,O,_⟩:=ins_get I.hok ea
    obtain ⟨od,J,_⟩:=O.look
    exact PySem.W.kia_one (PySem.W.kitx_own (cl.get _) cl.hd ha hn htk hm) I.kIn J e (fun z=>nomatch z) h
end
end L2
namespace L2
open PySem PySem.Spec PyProof.Rows
structure Room (k:Nat) (A:Around):Prop where
  hd:A.handled = none
  dp:A.depth + 3 * k + 5 < recursionLimit
  un:A.units + 16 * k + 200 < cLine
theorem Room.mono {j k:Nat} {A:Around} (r:Room k A) (h:j ≤ k):Room j A:=⟨r.hd,by have:=r.dp; omega,by have:=r.un; omega⟩
theorem Room.deeper {k:Nat} {A:Around} (r:Room (k + 1) A) (env:Env):Room k (A.deeper env) :=
  ⟨r.hd,by have:=r.dp; show A.depth + 1 + 3 * k + 5 < _; omega,by have:=r.un; show A.units + 3 + 16 * k + 200 < _; omega⟩
theorem Room.depth {k:Nat} {A:Around} (r:Room k A):A.depth < recursionLimit:=by have:=r.dp; omega
theorem Room.units {k:Nat} {A:Around} (r:Room k A):A.units + 64 < cLine:=by have:=r.un; omega
theorem Room.units0 {k:Nat} {A:Around} (r:Room k A):A.units < cLine:=by have:=r.un; omega
def tNil:TA:=fun _ H Q=>Q [] H
def tCons (ta:TE) (tr:TA):TA:=fun σ H Q=>ta σ H fun x H1=>tr σ H1 fun xs H2=>Q (x :: xs) H2
section
variable {X:Cx} {e:Expr} {es:List Expr} {te:TE} {t:TA} {pos:Pos}
theorem pa_nil:PA X [] tNil:=fun _ _ _ _ H Q I h=>Calls.spliced_nil ⟨[],H,I,.nil,h⟩
theorem pa_cons (ha:PE X e te) (hr:PA X es t) (hs:starEach (e :: es) X.env = (false,eval e X.env) :: starEach es X.env:=by rfl):PA X (e :: es) (tCons te t):=by
  intro pos pins s σ H Q I h
  rw [hs]
  show wpAny _ _ (spliced ((false,eval e X.env) :: backTo pos (starEach es X.env))) _ _ s
  refine Calls.spliced_cons (thn (ha pins s σ H _ I h) fun u s1 ⟨x,H1,I1,r1,q1⟩=>?_)
  exact thn (hr pos pins s1 σ H1 _ I1 q1) fun us s2 ⟨xs,H2,I2,r2,q2⟩=>⟨x :: xs,H2,I2,.cons r1 r2,q2⟩
def tTup (t:TA):TE:=fun σ H Q=>t σ H fun xs H1=>xs.length ≤ sizeLine ∧ ∀ p,H1 p = none → Q (.ref p) (upd H1 p (.tup xs))
def tLst (t:TA):TE:=fun σ H Q=>t σ H fun xs H1=>xs.length ≤ sizeLine ∧ ∀ p,H1 p = none → Q (.ref p) (upd H1 p (.lst xs))
theorem pe_tup {x1} (h:PA X es t):PE X (.Tuple es x1 pos) (tTup t):=by
  intro pins s σ H Q I hq
  refine wpAny_Tuple_spliced (thn (h pos pins s σ H _ I hq) fun us s1 ⟨xs,H1,I1,r,z,q⟩=>⟨by rw [← r.length]; exact z,?_⟩)
  have hf:H1 s1.heap.objs.size = none:=I1.hok.fresh (Nat.le_refl _)
  refine ⟨.ref s1.heap.objs.size,upd H1 s1.heap.objs.size (.tup xs),I1.laid (t':=s1.toks) (fun b u e=>Heap.get?_push_of_some _ e) (Nat.le_refl _) ?_,rfl,q _ hf⟩
  exact ⟨z,us,r,⟨_,Heap.get?_push_size _ rfl,rfl,_,rfl⟩⟩
theorem pe_lst (h:PA X es t):PE X (.List es pos) (tLst t):=by
  intro pins s σ H Q I hq
  refine wpAny_List_spliced (thn (h pos pins s σ H _ I hq) fun us s1 ⟨xs,H1,I1,r,z,q⟩=>⟨by rw [← r.length]; exact z,?_⟩)
  have hf:H1 s1.heap.objs.size = none:=I1.hok.fresh (Nat.le_refl _)
  refine ⟨.ref s1.heap.objs.size,upd H1 s1.heap.objs.size (.lst xs),I1.laid (t':=s1.toks) (fun b u e=>Heap.get?_push_of_some _ e) (Nat.le_refl _) ?_,rfl,q _ hf⟩
  exact ⟨z,us,0,r,Heap.get?_push_size _ rfl⟩
end
abbrev Sp:=List V → Hp → VK → XK → Prop
abbrev CXT:=List Env → Hp → Shared → XK → Value → Shared → Prop
structure Env0 (P:Program) (w:World) (K:PySem.W.Frag) (mg:Str → Option Value) (base:Heap) (A:Around) (outer:List Env) (s:Shared) (H:Hp):Prop where
  frames:A.frames = some outer
  mod:Mod K mg base
  bs:∀ b o,base.get? b = some o → s.heap.get? b = some o ∧ H b = none
  bsz:base.objs.size ≤ s.heap.objs.size
  funs:s.heap.FunFrames base outer
  frf:∀ b ∈ frs outer,H b = none
  hok:HOk P w H s.heap
  bare:AllBare s.gens
def CE (outer:List Env) (P:Program) (w:World) (H:Hp) (s:Shared) (Q:VK) (u:Value) (s':Shared):Prop :=
  ∃ v H',s'.os = s.os ∧ AllBare s'.gens ∧ Un (frs outer) [] H H' s.heap s'.heap ∧ HOk P w H' s'.heap ∧ RelV v u ∧ Q v H'
def CR (CX:CXT) (outer:List Env) (P:Program) (w:World) (H:Hp) (s:Shared) (Q:VK) (E:XK) (r:Result) (s':Shared):Prop :=
  match r with
  | .ok (.ret u)=>CE outer P w H s Q u s'
  | .ok _=>False
  | .error e=>CX outer H s E e s'
structure FnOk (P:Program) (w:World) (K:PySem.W.Frag) (mg:Str → Option Value) (base:Heap) (CX:CXT) (k:Nat) (f:Addr) (fd:FuncData) (ps:List Str) (sp:Sp):Prop where
  len:∀ vs H Q E,sp vs H Q E → vs.length = ps.length
  run:∀ (A:Around) (outer:List Env) (s:Shared) (H:Hp) (args:Args) (us:List Value) (vs:List V) (Q:VK) (E:XK),Room k A → Env0 P w K mg base A outer s H → BindsTo s fd args (ps.zip us) → Vals vs us → sp vs H Q E →
    codeAny (model P w) A (.call (.ref f) args) (CR CX outer P w H s Q E) s
section
variable {X:Cx} {pins:List (Addr × Obj)} {σ:St} {H:Hp} {s s':Shared}
theorem Inv.env0 (I:Inv X pins σ H s):Env0 X.prog X.w X.K X.mg X.base X.A X.stack s H :=
  ⟨I.ok.frames,I.ok.mod,I.bs,Nat.le_trans I.ok.bsz I.sz,I.stack,I.stkFree,I.hok,I.bare⟩
theorem Inv.after {Q:VK} {u:Value} (I:Inv X pins σ H s) (h:CE X.stack X.prog X.w H s Q u s'):EP X pins σ Q u s':=by
  obtain ⟨v,H',os,bare,un,hok,r,q⟩:=h
  obtain ⟨hh,g,d,t,os'⟩:=s'
  obtain rfl:os' = s.os:=os
  exact ⟨v,H',I.call (h':=hh) (g':=g) (d':=d) (t':=t) (ch:=[]) un hok bare (fun b z=>absurd z (by simp)),r,q⟩
end
def tCall (sp:Sp) (dvs:List V) (E:XK) (t:TA):TE:=fun σ H Q=>t σ H fun vs H1=>sp (vs ++ dvs) H1 Q E
def Binds (K:PySem.W.Frag) (fd:FuncData) (ps:List Str) (ds:List Value):Prop :=
  ∀ (s:Shared) (us:List Value),K.In s.heap → (us ++ ds).length = ps.length → BindsTo s fd ⟨us,[]⟩ (ps.zip (us ++ ds))
theorem Binds.all {K:PySem.W.Frag} {fd:FuncData} {ps:List Str} (h:∀ us:List Value,us.length = ps.length → bindArgs fd ⟨us,[]⟩ = pure (ps.zip us)):Binds K fd ps []:=fun s us _ hl=>by
  rw [List.append_nil] at hl ⊢
  exact .of_eq (h us hl)
def Passes (CX:CXT) (X:Cx) (E:XK):Prop:=∀ (pins:List (Addr × Obj)) (σ:St) (H:Hp) (s:Shared) (e:Value) (s':Shared),Inv X pins σ H s → CX X.stack H s E e s' → X.xe e s'
section
variable {X:Cx} {CX:CXT} {k:Nat} {f C:Addr} {fd:FuncData} {ps:List Str} {sp:Sp} {dvs:List V} {ds:List Value} {E:XK} {x m:Str} {p pos apos:Pos} {e o:Expr} {es:List Expr} {ta:TE} {t:TA}
theorem run_fn {pins:List (Addr × Obj)} {σ:St} {H:Hp} {s:Shared} {Q:VK} {us:List Value} {vs:List V} (F:FnOk X.prog X.w X.K X.mg X.base CX k f fd ps sp) (hr:Room k X.A) (hb:Binds X.K fd ps ds) (hd:Vals dvs ds) (hx:Passes CX X E)
    (I:Inv X pins σ H s) (r:Vals vs us) (h:sp (vs ++ dvs) H Q E):wpAny (model X.prog X.w) X.A (call (.ref f) us) (EP X pins σ Q) X.xe s:=by
  have r2:Vals (vs ++ dvs) (us ++ ds):=r.append hd
  have hl:(us ++ ds).length = ps.length:=by rw [← r2.length]; exact F.len _ _ _ _ h
  refine wpAny_call (codeAny_mono (F.run X.A X.stack s H ⟨us,[]⟩ (us ++ ds) (vs ++ dvs) Q E hr I.env0 (hb s us I.kIn hl) r2 h) fun r s' hq=>?_)
  cases r with
  | error e=>exact hx pins σ H s e s' I hq
  | ok fl =>
    cases fl with
    | ret u=>exact I.after hq
    | next=>exact False.elim hq
    | brk=>exact False.elim hq
    | cont=>exact False.elim hq
theorem pe_call (F:FnOk X.prog X.w X.K X.mg X.base CX k f fd ps sp) (hr:Room k X.A) (hg:Gl X x) (hm:X.mg x = some (.ref f)) (hk:PySem.W.keepIn X.K (.ref f) = true) (hb:Binds X.K fd ps ds) (hd:Vals dvs ds) (hx:Passes CX X E)
    (ha:PA X (e :: es) t) (hdb:(x == ("__debug__" : Str)) = false:=by decide) (he:starEach (e :: es) X.env = (false,eval e X.env) :: starEach es X.env:=by rfl) (hpl:(backTo pos (starEach es X.env)).any (·.1) = false:=by rfl) :
    PE X (.Call (.Name x p) (e :: es) [] pos) (tCall sp dvs E t):=by
  intro pins s σ H Q I h
  refine wpAny_Call_Name_kw (ld_glob I hg hm ?_ hdb)
  refine PySem.W.callWith_K (h₀:=X.base) I.ok.mod.kin hk (thn (ha pos pins s σ H _ I h) fun us s1 ⟨vs,H1,I1,r,q⟩=>⟨I1.kIn,?_⟩) he hpl
  exact run_fn F hr hb hd hx I1 r q
theorem pe_call0 (F:FnOk X.prog X.w X.K X.mg X.base CX k f fd ps sp) (hr:Room k X.A) (hg:Gl X x) (hm:X.mg x = some (.ref f)) (hk:PySem.W.keepIn X.K (.ref f) = true) (hb:Binds X.K fd ps ds) (hd:Vals dvs ds) (hx:Passes CX X E)
    (hdb:(x == ("__debug__" : Str)) = false:=by decide):PE X (.Call (.Name x p) [] [] pos) (tCall sp dvs E tNil):=by
  intro pins s σ H Q I h
  refine wpAny_Call_Name_kw (ld_glob I hg hm ?_ hdb)
  exact PySem.W.callWith_K0 I.kIn hk (run_fn (us:=[]) F hr hb hd hx I .nil h)
end
section
variable {X:Cx} {CX:CXT} {k:Nat} {f C:Addr} {fd:FuncData} {ps ks:List Str} {sp:Sp} {E:XK} {x m:Str} {p pos apos kpos:Pos} {e o:Expr} {es:List Expr} {kws:List Keyword} {te ta:TE} {t tk:TA} {nm:Option Str}
variable {g:List Value → List Value → List Value} {gV:List V → List V → List V}
end
structure FnScope (N P:List Str) (sc:Scope):Prop where
  kind:sc.kind = .function
  co:sc.isCoroutine = false
  gen:sc.isGenerator = false
  nd:N.Nodup
  pre:N.take P.length = P
  par:∀ x ∈ P,sc.names.lookup x = some .local ∨ sc.names.lookup x = some .cell
  nofree:∀ y ∈ sc.names,y.2 ≠ .free
theorem bindL_out {kindOf:Str → Option NameKind} {x:Str}:∀ {binds:List (Str × Value)} {m:Str → Option Value},(∀ v,(x,v) ∉ binds) → bindL kindOf binds m x = m x
  | [],_,_=>rfl
  | (n,v) :: r,m,h=>by
    unfold bindL
    rw [bindL_out fun w hw=>h w (List.mem_cons_of_mem _ hw)]
    split
    · have:x ≠ n:=by rintro rfl; exact h v List.mem_cons_self
      simp [this]
    · rfl
theorem bindC_out {kindOf:Str → Option NameKind} {x:Str}:∀ {binds:List (Str × Value)} {m:Str → Option Value},(∀ v,(x,v) ∉ binds) → bindC kindOf binds m x = m x
  | [],_,_=>rfl
  | (n,v) :: r,m,h=>by
    unfold bindC
    rw [bindC_out fun w hw=>h w (List.mem_cons_of_mem _ hw)]
    split
    · rfl
    · have:x ≠ n:=by rintro rfl; exact h v List.mem_cons_self
      simp [this]
theorem bindL_get {kindOf:Str → Option NameKind} {x:Str} {v:Value}:∀ {P:List Str} {vs:List Value} {i:Nat} {m:Str → Option Value},P.Nodup → P[i]? = some x → vs[i]? = some v → kindOf x = some .local →
    bindL kindOf (P.zip vs) m x = some v
  | [],_,_,_,_,h,_,_=>by simp at h
  | _ :: _,[],_,_,_,_,h,_=>by simp at h
  | p :: P,w :: vs,0,m,nd,h1,h2,hk=>by
    simp at h1 h2; subst h1; subst h2
    show bindL kindOf ((p,w) :: P.zip vs) m p = _
    unfold bindL
    rw [bindL_out fun v hv=>(List.nodup_cons.mp nd).1 (List.of_mem_zip hv).1,if_pos hk]
    simp
  | p :: P,w :: vs,i + 1,m,nd,h1,h2,hk=>by
    show bindL kindOf ((p,w) :: P.zip vs) m x = _
    unfold bindL
    exact bindL_get (i:=i) (List.nodup_cons.mp nd).2 (by simpa using h1) (by simpa using h2) hk
theorem bindC_get {kindOf:Str → Option NameKind} {x:Str} {v:Value}:∀ {P:List Str} {vs:List Value} {i:Nat} {m:Str → Option Value},P.Nodup → P[i]? = some x → vs[i]? = some v → kindOf x ≠ some .local →
    bindC kindOf (P.zip vs) m x = some v
  | [],_,_,_,_,h,_,_=>by simp at h
  | _ :: _,[],_,_,_,_,h,_=>by simp at h
  | p :: P,w :: vs,0,m,nd,h1,h2,hk=>by
    simp at h1 h2; subst h1; subst h2
    show bindC kindOf ((p,w) :: P.zip vs) m p = _
    unfold bindC
    rw [bindC_out fun v hv=>(List.nodup_cons.mp nd).1 (List.of_mem_zip hv).1,if_neg hk]
    simp
  | p :: P,w :: vs,i + 1,m,nd,h1,h2,hk=>by
    show bindC kindOf ((p,w) :: P.zip vs) m x = _
    unfold bindC
    exact bindC_get (i:=i) (List.nodup_cons.mp nd).2 (by simpa using h1) (by simpa using h2) hk
def start (N:List Str) (vs:List V):St:=vs.map some ++ List.replicate (N.length - vs.length) none
def cxOf (CX:CXT) (P:Program) (w:World) (K:PySem.W.Frag) (mg:Str → Option Value) (base:Heap) (N:List Str) (qual:Str) (scope:Scope) (f:Addr) (cd:Value) (A:Around) (outer:List Env) (s:Shared) (H:Hp) (E:XK):Cx where
  prog:=P
  w:=w
  K:=K
  mg:=mg
  base:=base
  A:=A.deeper (envOfC qual scope s.heap.objs.size f cd)
  N:=N
  s₀:=s
  H₀:=H
  env:=envOfC qual scope s.heap.objs.size f cd
  outer:=outer
  stack:=envOfC qual scope s.heap.objs.size f cd :: outer
  ex:=[]
  calm:=true
  fn:=fun _=>true
  pn:=[]
  xe:=fun e s'=>wpAny (model P w) (A.deeper (envOfC qual scope s.heap.objs.size f cd)) (leaving (envOfC qual scope s.heap.objs.size f cd) e) (fun _ s''=>CX outer H s E e s'') (fun e' s''=>CX outer H s E e' s'') s'
theorem cell_has {sc:Scope} {n:Nat} {x:Str} (h:sc.names.lookup x = some .cell):∃ c,(cellsFrom n sc.names []).lookup x = some c:=by
  have q:=PySem.W.cellsFrom_some sc.names n [] (.inl h)
  exact Option.isSome_iff_exists.mp q
theorem inv_start {CX:CXT} {P:Program} {w:World} {K:PySem.W.Frag} {mg:Str → Option Value} {base:Heap} {N ps:List Str} {qual:Str} {scope:Scope} {f:Addr} {cd:Value} {A:Around} {outer:List Env} {s s1:Shared} {H:Hp} {E:XK} {us:List Value} {vs:List V}
    (S:FnScope N ps scope) (hd:A.handled = none) (e0:Env0 P w K mg base A outer s H) (hl:vs.length = ps.length) (r:Vals vs us)
    (x:InCallC s s.heap.objs.size (bindL (envOfC qual scope s.heap.objs.size f cd).kindOf (ps.zip us) fun _=>none) (cellsFrom (s.heap.objs.size + 1) scope.names []) (bindC (envOfC qual scope s.heap.objs.size f cd).kindOf (ps.zip us) fun _=>none) s1) :
    Inv (cxOf CX P w K mg base N qual scope f cd A outer s H E) [] (start N vs) H s1:=by
  have hpl:ps.length ≤ N.length:=by have:=congrArg List.length S.pre; rw [List.length_take] at this; omega
  obtain ⟨h1,tk,rfl,hk⟩:=x.done
  have noA:∀ b:Addr,b ∉ (cxOf CX P w K mg base N qual scope f cd A outer s H E).ex:=fun b z=>absurd (show b ∈ ([]:List Addr) from z) (by simp)
  refine ⟨⟨e0.mod,S.kind,rfl,rfl,Nat.le_refl _,fun y z c h1 h2=>?_,fun y hy=>?_,fun y c _ h=>?_,fun _=>hd,Around.frames_deeper e0.frames,.inr ⟨rfl,rfl⟩,fun b z=>absurd z (noA b),e0.bs,e0.bsz,fun b _ _=>noA b,fun b z=>absurd z (noA b),e0.funs,e0.frf⟩,
    rfl,e0.bare,Un.kept hk,⟨_,x.toInCall.ns,fun i y v h1 h2 h3=>?_⟩,fun y c h=>⟨_,x.cell y c h⟩,e0.hok.fresh (Nat.le_refl _),fun y c h=>?_,fun p hp=>absurd (show p ∈ ([]:List (Addr × Obj)) from hp) (by simp),e0.hok.kept hk,?_⟩
  · exact name_of_addr x.apart (PySem.mem_of_lookup h1) (PySem.mem_of_lookup h2)
  · have hy:scope.names.lookup y = some .cell ∨ scope.names.lookup y = some .free:=hy
    rcases hy with hy | hy
    · exact cell_has hy
    · exact absurd rfl (S.nofree _ (PySem.mem_of_lookup hy))
  · exact Nat.le_of_lt (x.above y c (PySem.mem_of_lookup h))
  · have hi:i < vs.length:=by
      unfold start at h2
      by_cases hi:i < vs.length
      · exact hi
      · rw [List.getElem?_append_right (by simpa using hi)] at h2
        rw [List.getElem?_replicate] at h2
        split at h2 <;> cases h2
    have ha:vs[i]? = some v:=by
      unfold start at h2
      rw [List.getElem?_append_left (by simpa using hi),List.getElem?_map] at h2
      cases e:vs[i]? with
      | none=>rw [e] at h2; cases h2
      | some a=>rw [e] at h2; cases h2; rfl
    obtain ⟨u,hu,rv⟩:=r.get ha
    have hp:ps[i]? = some y:=by
      rw [← S.pre,List.getElem?_take_of_lt (by omega)]; exact h1
    have ndP:ps.Nodup:=by rw [← S.pre]; exact S.nd.sublist (List.take_sublist _ _)
    refine ⟨u,rv,?_⟩
    rcases S.par y (List.mem_of_getElem? hp) with k | k
    · exact .inl ⟨k,bindL_get ndP hp hu k⟩
    · obtain ⟨c,e⟩:=cell_has (n:=s.heap.objs.size + 1) k
      refine .inr ⟨.inl k,c,e,?_⟩
      have q:=x.cell y c e
      rw [bindC_get ndP hp hu (by show scope.names.lookup y ≠ _; rw [k]; decide)] at q
      exact q
  · exact e0.hok.fresh (Nat.le_of_lt (x.above y c (PySem.mem_of_lookup h)))
  · unfold start
    show _ = N.length
    rw [List.length_append,List.length_map,List.length_replicate]
    omega
theorem fn_of {CX:CXT} {P:Program} {w:World} {K:PySem.W.Frag} {mg:Str → Option Value} {base:Heap} {k:Nat} {f:Addr} {name qual:Str} {params:Arguments} {body:List Stmt} {scope:Scope} {dV kV doc pm cdv ct oc:Value} {an od:Option Addr}
    {osl:Array (Option Value)} {N ps:List Str} {sp:Sp} (lk:K.lookup f = some ⟨oc,od,.func (PySem.W.fnOf name qual params body scope dV kV doc pm an cdv ct),osl⟩) (hcd:PySem.W.codeIn K cdv qual = true) (S:FnScope N ps scope)
    (len:∀ vs H Q E,sp vs H Q E → vs.length = ps.length)
    (hbody:∀ (A:Around) (outer:List Env) (s:Shared) (H:Hp) (vs:List V) (Q:VK) (E:XK),Room k (A.deeper (envOfC qual scope s.heap.objs.size f cdv)) → sp vs H Q E →
      ∃ t,PSs (cxOf CX P w K mg base N qual scope f cdv A outer s H E) body t ∧ t { nx:=fun _ H'=>Q .non H',rt:=Q } (start N vs) H) :
    FnOk P w K mg base CX (k + 1) f (PySem.W.fnOf name qual params body scope dV kV doc pm an cdv ct) ps sp:=by
  refine ⟨len,fun A outer s H args us vs Q E hr e0 hb r hsp=>?_⟩
  have hl:=len _ _ _ _ hsp
  have KX:K.In s.heap:=e0.mod.kin.keeps fun b o e=>(e0.bs b o e).1
  have lim:s.heap.NoLimit:=e0.mod.nolimit.keeps fun b o e=>(e0.bs b o e).1
  have hkind:∀ y ∈ ps.zip us,scope.names.lookup y.1 = some .local ∨ (scope.names.lookup y.1 = some .cell ∧ ((cellsFrom (s.heap.objs.size + 1) scope.names []).lookup y.1).isSome = true):=fun ⟨n,v⟩ hy=>by
    rcases S.par n (List.of_mem_zip hy).1 with q | q
    · exact .inl q
    · exact .inr ⟨q,PySem.W.cellsFrom_some _ _ _ (.inl q)⟩
  refine codeAny_call_function hr.depth (KX _ _ lk) rfl S.co S.gen rfl (PySem.W.codeRec_of KX hcd) (hb _ _ _ _ ?_)
  refine wpAny_newFunctionEnv_cells S.kind hkind fun env he s1 x=>?_
  subst he
  refine ⟨lim.keeps x.toInCall.keep,codeAny_func ?_⟩
  obtain ⟨t,ht,hq⟩:=hbody A outer s H vs Q E (hr.deeper _) hsp
  have I:Inv (cxOf CX P w K mg base N qual scope f cdv A outer s H E) [] (start N vs) H s1:=inv_start S hr.hd e0 hl r x
  refine wpAny_mono (ht [] s1 (start N vs) H _ I hq) (fun fl s' hs=>?_) fun e s' hs=>hs
  have fin:∀ {σ':St} {H':Hp} {v:V} {u:Value},Inv (cxOf CX P w K mg base N qual scope f cdv A outer s H E) [] σ' H' s' → RelV v u → Q v H' → CE outer P w H s Q u s' :=
    fun {σ' H' v u} J rv q=>⟨v,H',J.os,J.bare,J.base,J.hok,rv,q⟩
  cases fl with
  | ret u =>
    obtain ⟨v,σ',H',J,rv,q⟩:=hs
    exact fin J rv q
  | next =>
    obtain ⟨σ',H',J,q⟩:=hs
    exact fin (v:=V.non) (u:=Value.none) J rfl q
  | brk =>
    obtain ⟨_,_,_,q⟩:=hs
    exact False.elim q
  | cont =>
    obtain ⟨_,_,_,q⟩:=hs
    exact False.elim q
end L2
namespace L2
open PySem PySem.Spec PyProof.Rows
section
variable {X:Cx} {x:Str} {p pos:Pos} {e:Expr} {es:List Expr} {t:TA} {id T:String} {r:List V → Hp → VK → Prop}
def tCB (r:List V → Hp → VK → Prop) (t:TA):TE:=fun σ H Q=>t σ H fun vs H1=>r vs H1 Q
theorem pe_callB (hc:CallR X (.builtin id) r) (hg:Gl X x) (hm:X.mg x = none) (hv:bootBuiltins x = some (.builtin id)) (ha:PA X (e :: es) t) (hn:x ≠ "__name__" := by decide) (hdb:(x == ("__debug__" : Str)) = false:=by decide)
    (he:starEach (e :: es) X.env = (false,eval e X.env) :: starEach es X.env:=by rfl) (hpl:(backTo pos (starEach es X.env)).any (·.1) = false:=by rfl):PE X (.Call (.Name x p) (e :: es) [] pos) (tCB r t):=by
  intro pins s σ H Q I h
  refine wpAny_Call_Name_kw (ld_blt I hg hm hv ?_ hn hdb)
  exact PyProof.Rows.callWith_builtin1 (thn (ha pos pins s σ H _ I h) fun us s1 ⟨vs,H1,I1,r1,q1⟩=>hc pins s1 σ H1 vs us Q I1 r1 q1) he hpl
theorem pe_callTy (hc:CallR X (.type T) r) (hg:Gl X x) (hm:X.mg x = none) (hv:bootBuiltins x = some (.type T)) (ha:PA X (e :: es) t) (hn:x ≠ "__name__" := by decide) (hdb:(x == ("__debug__" : Str)) = false:=by decide)
    (he:starEach (e :: es) X.env = (false,eval e X.env) :: starEach es X.env:=by rfl) (hpl:(backTo pos (starEach es X.env)).any (·.1) = false:=by rfl):PE X (.Call (.Name x p) (e :: es) [] pos) (tCB r t):=by
  intro pins s σ H Q I h
  refine wpAny_Call_Name_kw (ld_blt I hg hm hv ?_ hn hdb)
  exact PyProof.Rows.callWith_type1 (thn (ha pos pins s σ H _ I h) fun us s1 ⟨vs,H1,I1,r1,q1⟩=>hc pins s1 σ H1 vs us Q I1 r1 q1) he hpl
end
end L2
namespace HT
open PySem PyProof.Rows
section
open PySem.SeqAt
open PySem.AutoSeq1 (wpAny_loadPart')
open PySem.MeetsSeq PySem.MeetsSeq2 PySem.MeetsSeq3
end
section
variable {prog:Program} {w:World} {A:Around} {E:Value → Shared → Prop} {s:Shared}
end
end HT
namespace L2
open PySem PySem.Spec PyProof.Rows
abbrev TO:=St → Hp → (Option Int → Hp → Prop) → Prop
def PO (X:Cx) (e:Option Expr) (t:TO):Prop :=
  ∀ (pins:List (Addr × Obj)) (s:Shared) (σ:St) (H:Hp) (Q:Option Int → Hp → Prop),Inv X pins σ H s → t σ H Q →
    wpAny (model X.prog X.w) X.A (evalPart e X.env) (fun u s'=>∃ o H',Inv X pins σ H' s' ∧ IsPart u o ∧ Q o H') X.xe s
def tNoPart:TO:=fun _ H Q=>Q none H
def tPart (t:TE):TO:=fun σ H Q=>t σ H fun x H1=>∃ i,x = .int i ∧ Q (some i) H1
theorem intsAre_of {ns:List Int}:∀ {us:List Value},Vals (ns.map V.int) us → IntsAre us ns:=by
  induction ns with
  | nil=>intro us r; rw [List.map_nil] at r; cases r; exact .nil
  | cons n ns ih =>
    intro us r
    rw [List.map_cons] at r
    cases r with
    | cons r1 r2 =>
      obtain ⟨t,e⟩:=r1
      subst e
      exact .cons n t (ih r2)
section
variable {X:Cx} {e:Expr} {te:TE} {lo hi:Option Expr} {tl th:TO} {pos p2:Pos}
theorem po_none:PO X none tNoPart:=by
  intro pins s σ H Q I h
  rw [evalPart_none]
  exact wpAny_pure ⟨none,H,I,.none,h⟩
theorem po_some (h:PE X e te):PO X (some e) (tPart te):=by
  intro pins s σ H Q I hw
  rw [evalPart_some]
  refine thn (h pins s σ H _ I hw) fun u s1 ⟨x,H1,I1,r1,q1⟩=>?_
  obtain ⟨i,rfl,q⟩:=q1
  obtain ⟨t,rfl⟩:=r1
  exact ⟨some i,H1,I1,.int i t,q⟩
def SlR (X:Cx) (r:V → Option Int → Option Int → Hp → VK → Prop):Prop :=
  ∀ (pins:List (Addr × Obj)) (s:Shared) (σ:St) (H:Hp) (x:V) (v vl vu:Value) (lo hi:Option Int) (sl:Addr) (Q:VK),Inv X pins σ H s → RelV x v → s.heap.IsSliceOf sl vl vu .none → IsPart vl lo → IsPart vu hi → r x lo hi H Q →
    ∃ T id,typeLookup (.type T) "__getitem__" = pure (some (.builtin id)) ∧ s.TypeIs v T ∧ wpAny (model X.prog X.w) X.A (getItem v (.ref sl)) (EP X pins σ Q) X.xe s
theorem SlR.or {r r':V → Option Int → Option Int → Hp → VK → Prop} (h:SlR X r) (h':SlR X r'):SlR X (fun x lo hi H Q=>r x lo hi H Q ∨ r' x lo hi H Q):=by
  intro pins s σ H x v vl vu lo hi sl Q I rx hs pl pu q
  rcases q with q | q
  · exact h pins s σ H x v vl vu lo hi sl Q I rx hs pl pu q
  · exact h' pins s σ H x v vl vu lo hi sl Q I rx hs pl pu q
def tSl (r:V → Option Int → Option Int → Hp → VK → Prop) (te:TE) (tl th:TO):TE:=fun σ H Q=>te σ H fun x H1=>tl σ H1 fun l H2=>th σ H2 fun u H3=>r x l u H3 Q
theorem pe_slice {r:V → Option Int → Option Int → Hp → VK → Prop} (hr:SlR X r) (he:PE X e te) (hl:PO X lo tl) (hu:PO X hi th):PE X (.Subscript e (.Slice lo hi none p2) pos) (tSl r te tl th):=by
  intro pins s σ H Q I h
  refine Subscript_ (thn (he pins s σ H _ I h) fun v s1 ⟨x,H1,I1,r1,q1⟩=>?_)
  refine wpAny_Slice (thn (hl pins s1 σ H1 _ I1 q1) fun vl s2 ⟨l,H2,I2,pl,q2⟩=>thn (hu pins s2 σ H2 _ I2 q2) fun vu s3 ⟨u,H3,I3,pu,q3⟩=>?_)
  rw [evalPart_none]
  refine wpAny_pure ?_
  have I4:Inv X pins σ H3 { s3 with heap:=s3.heap.push { cls:=.type "slice", data:=.fields #[vl,vu,.none] } }:=I3.kept (t':=s3.toks) fun b ob q=>Heap.get?_push_of_some _ q
  obtain ⟨T,id,hT,ht,hg⟩:=hr pins { s3 with heap:=s3.heap.push { cls:=.type "slice", data:=.fields #[vl,vu,.none] } } σ H3 x v vl vu l u s3.heap.objs.size Q I4 r1 (Heap.IsSliceOf.new ..) pl pu q3
  show wpAny (model X.prog X.w) X.A (subscriptTail e (.Slice lo hi none p2) v (.ref s3.heap.objs.size)) (EP X pins σ Q) X.xe { s3 with heap:=s3.heap.push { cls:=.type "slice", data:=.fields #[vl,vu,.none] } }
  exact tail_any (ops:=[.ref s3.heap.objs.size,v]) ht hT hg (by with_unfolding_all rfl)
end
end L2
namespace L2
open PySem PySem.Spec PyProof.Rows
def ixN (n:Nat) (i:Int):Option Nat:=if 0 ≤ i then (if i < n then some i.toNat else none) else if -(n:Int) ≤ i then some (i + n).toNat else none
def atI {α:Type} (xs:List α) (i:Int):Option α:=(ixN xs.length i).bind fun j=>xs[j]?
theorem ixN_seq {n:Nat} {i:Int} {j:Nat} (h:ixN n i = some j):seqIndex? i n = some j ∧ j < n ∧ -(n:Int) ≤ i ∧ i < n:=by
  unfold ixN at h
  by_cases h0:0 ≤ i
  · rw [if_pos h0] at h
    by_cases h1:i < n
    · rw [if_pos h1] at h
      have e:i.toNat = j:=Option.some.inj h
      exact ⟨by rw [seqIndex_of h0 h1,e],by omega,by omega,h1⟩
    · rw [if_neg h1] at h; cases h
  · rw [if_neg h0] at h
    by_cases h1 : -(n:Int) ≤ i
    · rw [if_pos h1] at h
      have e:(i + n).toNat = j:=Option.some.inj h
      exact ⟨by rw [seqIndex_neg (by omega) h1,e],by omega,h1,by omega⟩
    · rw [if_neg h1] at h; cases h
theorem atI_get {α:Type} {xs:List α} {i:Int} {v:α} (h:atI xs i = some v):∃ j,seqIndex? i xs.length = some j ∧ xs[j]? = some v ∧ j < xs.length ∧ -(xs.length:Int) ≤ i ∧ i < xs.length:=by
  unfold atI at h
  cases e:ixN xs.length i with
  | none=>rw [e] at h; cases h
  | some j =>
    rw [e] at h
    obtain ⟨h1,h2,h3,h4⟩:=ixN_seq e
    exact ⟨j,h1,h,h2,h3,h4⟩
theorem atI_nat {α:Type} {xs:List α} {j:Nat} {v:α} (h:xs[j]? = some v):atI xs (j:Int) = some v:=by
  have hj:j < xs.length:=(List.getElem?_eq_some_iff.mp h).1
  have e:ixN xs.length (j:Int) = some j:=by
    unfold ixN
    rw [if_pos (by omega),if_pos (by omega)]; simp
  unfold atI; rw [e]; exact h
def PlainIx (b:Expr):Prop:=∀ o i,subscripted b false o i = operate [o,i] (getItem o i)
def IxR (X:Cx) (r:R2):Prop :=
  ∀ (value slice:Expr) (pins:List (Addr × Obj)) (s:Shared) (σ:St) (H:Hp) (x y:V) (v u:Value) (Q:VK),Inv X pins σ H s → RelV x v → RelV y u → r x y H Q →
    subscripted slice false v u = operate [v,u] (getItem v u) → wpAny (model X.prog X.w) X.A (subscriptTail value slice v u) (EP X pins σ Q) X.xe s
def MtR (X:Cx) (id:String) (r:V → List V → Hp → VK → Prop):Prop :=
  ∀ (pins:List (Addr × Obj)) (s:Shared) (σ:St) (H:Hp) (x:V) (xs:List V) (v:Value) (us:List Value) (Q:VK),Inv X pins σ H s → RelV x v → Vals xs us → r x xs H Q →
    wpAny (model X.prog X.w) X.A (call (.builtin id) (v :: us)) (EP X pins σ Q) X.xe s
section
variable {X:Cx} {a b:Expr} {ta tb:TE} {pos:Pos}
theorem IxR.or {r r':R2} (h:IxR X r) (h':IxR X r'):IxR X (fun x y H Q=>r x y H Q ∨ r' x y H Q):=by
  intro value slice pins s σ H x y v u Q I rx ry q hs
  rcases q with q | q
  · exact h value slice pins s σ H x y v u Q I rx ry q hs
  · exact h' value slice pins s σ H x y v u Q I rx ry q hs
theorem MtR.or {id:String} {r r':V → List V → Hp → VK → Prop} (h:MtR X id r) (h':MtR X id r'):MtR X id (fun x xs H Q=>r x xs H Q ∨ r' x xs H Q):=by
  intro pins s σ H x xs v us Q I rx rs q
  rcases q with q | q
  · exact h pins s σ H x xs v us Q I rx rs q
  · exact h' pins s σ H x xs v us Q I rx rs q
theorem pe_ix {r:R2} (hr:IxR X r) (ha:PE X a ta) (hb:PE X b tb) (hs:PlainIx b):PE X (.Subscript a b pos) (tOp r ta tb):=by
  intro pins s σ H Q I h
  exact Subscript_ (binT ha hb I h fun v u s2 x y H2 I2 rx ry q=>hr a b pins s2 σ H2 x y v u Q I2 rx ry q (hs _ _))
def rIxL (K:PySem.W.Frag):R2:=fun x y H Q=>∃ p xs i v,x = .ref p ∧ y = .int i ∧ SqL K H p xs ∧ atI xs i = some v ∧ Q v H
def rIxT (K:PySem.W.Frag):R2:=fun x y H Q=>∃ p xs i v,x = .ref p ∧ y = .int i ∧ SqT K H p xs ∧ atI xs i = some v ∧ Q v H
def rIxS:R2:=fun x y H Q=>∃ z i c,x = .str z ∧ y = .int i ∧ z.length ≤ sizeLine ∧ atI z.cps.toList i = some c ∧ Q (.str ⟨#[c]⟩) H
theorem ix_list:IxR X (rIxL X.K):=by
  intro value slice pins s σ H x y v u Q I rx ry h hs
  obtain ⟨p,xs,i,z,rfl,rfl,hq,he,q⟩:=h
  cases rx
  obtain ⟨t,rfl⟩:=ry
  obtain ⟨its,r,pl,hz⟩:=I.list hq
  obtain ⟨j,h1,h2,h3,h4,h5⟩:=atI_get he
  obtain ⟨w,ew,rw'⟩:=r.get h2
  have hl:=r.length
  have hn:=line63
  have fin:EP X pins σ Q w s:=⟨z,H,I,rw',q⟩
  by_cases h0:0 ≤ i
  · have hj:i.toNat = j:=by
      rw [seqIndex_of h0 h5] at h1
      exact Option.some.inj h1
    exact item_listR pl.isList h0 (by omega) (by rw [hj]; simpa using ew) fin hs
  · have hj:(i + (its.toArray.size:Int)).toNat = j:=by
      rw [seqIndex_neg (by omega) h4] at h1
      rw [List.size_toArray,← hl]
      exact Option.some.inj h1
    exact subscriptTail_builtinR (x:=w) pl.isList.typeIs slot_list_getitem.lookup
      (wpAny_getItem_list_neg (Q:=fun r s'=>r = w ∧ EP X pins σ Q r s') pl.isList (by omega) (by rw [List.size_toArray] <;> omega) (by omega) (by rw [hj]; simpa using ew) ⟨rfl,fin⟩) hs
theorem ix_tup:IxR X (rIxT X.K):=by
  intro value slice pins s σ H x y v u Q I rx ry h hs
  obtain ⟨p,xs,i,z,rfl,rfl,hq,he,q⟩:=h
  cases rx
  obtain ⟨t,rfl⟩:=ry
  obtain ⟨its,r,pl,hz⟩:=I.tuple hq
  obtain ⟨j,h1,h2,h3,h4,h5⟩:=atI_get he
  obtain ⟨w,ew,rw'⟩:=r.get h2
  have hl:=r.length
  have hn:=line63
  have fin:EP X pins σ Q w s:=⟨z,H,I,rw',q⟩
  exact subscriptTail_builtinR (x:=w) pl.typeIs slot_tuple_getitem.lookup
    (getItem_tuple (j:=j) (Q:=fun r s'=>r = w ∧ EP X pins σ Q r s') pl (by omega) (by omega) (by rw [List.size_toArray,← hl]; exact h1) (by simpa using ew) ⟨rfl,fin⟩) hs
theorem ix_str:IxR X rIxS:=by
  intro value slice pins s σ H x y v u Q I rx ry h hs
  obtain ⟨z,i,c,rfl,rfl,hz,he,q⟩:=h
  obtain ⟨t,rfl⟩:=rx
  obtain ⟨t',rfl⟩:=ry
  obtain ⟨j,h1,h2,h3,h4,h5⟩:=atI_get he
  have hl:z.cps.toList.length = z.length:=by simp [Str.length]
  rw [hl] at h1 h4 h5
  have hn:=line63
  exact tail_any (typeIs_str s z t) slot_str_getitem.lookup (getItem_str (c:=c) (by
    have e1:decide (i < -(2 ^ 63:Int)) = false:=decide_eq_false (by omega)
    have e2:decide (i ≥ 2 ^ 63) = false:=decide_eq_false (by omega)
    rw [e1,e2,Bool.or_false]) (by rw [h1]; simpa using h2) ⟨.str ⟨#[c]⟩,H,I.tok _,⟨_,rfl⟩,q⟩) hs
theorem mapSeq_set (its:List Value) (n j:Nat) (u:Value):Obj.mapSeq (·.setIfInBounds j u) { cls:=.type "list", data:=.seq its.toArray n } = { cls:=.type "list", data:=.seq (its.set j u).toArray n }:=by
  simp [Obj.mapSeq]
theorem Inv.lst {pins:List (Addr × Obj)} {σ:St} {H:Hp} {s:Shared} {p:Addr} {xs:List V} (I:Inv X pins σ H s) (h:H p = some (.lst xs)) :
    ∃ (its:List Value) (n:Nat),Vals xs its ∧ s.heap.get? p = some { cls:=.type "list", data:=.seq its.toArray n } ∧ xs.length ≤ sizeLine:=by
  obtain ⟨z,its,n,r,e⟩:=I.hok p _ h
  exact ⟨its,n,r,e,z⟩
theorem Inv.lstUpd {pins:List (Addr × Obj)} {σ:St} {H:Hp} {s:Shared} {p:Addr} {xs ys:List V} {its its':List Value} {n n':Nat} {f:Obj → Obj} (I:Inv X pins σ H s) (h:H p = some (.lst xs))
    (ho:s.heap.get? p = some { cls:=.type "list", data:=.seq its.toArray n }) (hf:f { cls:=.type "list", data:=.seq its.toArray n } = { cls:=.type "list", data:=.seq its'.toArray n' }) (r:Vals ys its') (hz:ys.length ≤ sizeLine) (t:Nat) :
    Inv X pins σ (upd H p (.lst ys)) { s with heap:=s.heap.update p f,toks:=t }:=by
  have e:(s.heap.update p f).get? p = some { cls:=.type "list", data:=.seq its'.toArray n' }:=by
    rw [Heap.get?_update_self f ho (by rw [hf] <;> rfl),hf]
  refine I.write (x:=p) (e:=p) (by rw [h]; trivial) (.inl rfl) (fun b u hb q=>(Heap.get?_update_other _ _ (Ne.symm hb)).trans q) ⟨_,e⟩ ?_
  exact ⟨hz,its',n',r,e⟩
def rSetL:V → V → V → Hp → (Hp → Prop) → Prop:=fun o i v H Q=>∃ p xs k j,o = .ref p ∧ i = .int k ∧ H p = some (.lst xs) ∧ ixN xs.length k = some j ∧ Q (upd H p (.lst (xs.set j v)))
theorem set_list:PSet X rSetL:=by
  intro pins s σ H o i v ov iv u Q I ro ri rv h
  obtain ⟨p,xs,k,j,rfl,rfl,hp,hj,q⟩:=h
  cases ro
  obtain ⟨t,rfl⟩:=ri
  obtain ⟨its,n,r,ho,hz⟩:=I.lst hp
  obtain ⟨h1,h2,h3,h4⟩:=ixN_seq hj
  have hl:=r.length
  have hn:=line63
  have I':Inv X pins σ (upd H p (.lst (xs.set j v))) { s with heap:=s.heap.update p (Obj.mapSeq (·.setIfInBounds j u)) } :=
    I.lstUpd hp ho (mapSeq_set its n j u) (r.set rv j) (by rw [List.length_set]; exact hz) s.toks
  by_cases h0:0 ≤ k
  · have hk:k.toNat = j:=by
      rw [seqIndex_of h0 h4] at h1
      exact Option.some.inj h1
    exact PySem.W.ki_setAt ho h0 (by omega) (by rw [List.size_toArray,← hl]; exact h4) (by rw [hk]; exact ⟨_,I',q⟩)
  · have hk:(k + (its.toArray.size:Int)).toNat = j:=by
      rw [seqIndex_neg (by omega) h3] at h1
      rw [List.size_toArray,← hl]
      exact Option.some.inj h1
    exact PySem.W.ki_setBack ho (by omega) (by rw [List.size_toArray,← hl]; exact h3) (by omega) (by rw [hk]; exact ⟨_,I',q⟩)
def flatV:V → Bool
  | .non=>true
  | .bl _=>true
  | .int _=>true
  | .str _=>true
  | _=>false
def eqV:V → V → Bool
  | .non,.non=>true
  | .bl a,.bl b=>a == b
  | .bl a,.int b=>(if a then 1 else 0) == b
  | .int a,.bl b=>a == (if b then 1 else 0)
  | .int a,.int b=>a == b
  | .str a,.str b=>a == b
  | _,_=>false
theorem eqAt_V {A:Around} {s:Shared} {y x:V} {u v:Value} (ry:RelV y u) (rx:RelV x v) (fy:flatV y = true) (fx:flatV x = true):SeqAt.EqAt A s u v (eqV y x):=by
  cases y with
  | non =>
    cases ry
    cases x with
    | non=>cases rx; exact SeqAt.EqAt.same _
    | bl b=>cases rx; exact SeqAt.EqAt.none_bool b
    | int b=>obtain ⟨t,rfl⟩:=rx; exact SeqAt.EqAt.none_int b t
    | str b=>obtain ⟨t,rfl⟩:=rx; exact SeqAt.EqAt.none_str b t
    | _=>exact absurd (show false = true from fx) Bool.false_ne_true
  | bl a =>
    cases ry
    cases x with
    | non=>cases rx; exact SeqAt.EqAt.bool_none a
    | bl b=>cases rx; exact SeqAt.EqAt.bool_bool a b
    | int b=>obtain ⟨t,rfl⟩:=rx; exact SeqAt.EqAt.bool_int a b t
    | str b=>obtain ⟨t,rfl⟩:=rx; exact SeqAt.EqAt.bool_str a b t
    | _=>exact absurd (show false = true from fx) Bool.false_ne_true
  | int a =>
    obtain ⟨t',rfl⟩:=ry
    cases x with
    | non=>cases rx; exact SeqAt.EqAt.int_none a t'
    | bl b=>cases rx; exact SeqAt.EqAt.int_bool a t' b
    | int b=>obtain ⟨t,rfl⟩:=rx; exact SeqAt.EqAt.int_int a t' b t
    | str b=>obtain ⟨t,rfl⟩:=rx; exact SeqAt.EqAt.int_str a t' b t
    | _=>exact absurd (show false = true from fx) Bool.false_ne_true
  | str a =>
    obtain ⟨t',rfl⟩:=ry
    cases x with
    | non=>cases rx; exact SeqAt.EqAt.str_none a t'
    | bl b=>cases rx; exact SeqAt.EqAt.str_bool a t' b
    | int b=>obtain ⟨t,rfl⟩:=rx; exact SeqAt.EqAt.str_int a t' b t
    | str b=>obtain ⟨t,rfl⟩:=rx; exact SeqAt.EqAt.str_str a t' b t
    | _=>exact absurd (show false = true from fx) Bool.false_ne_true
  | _=>exact absurd (show false = true from fy) Bool.false_ne_true
theorem call_len_seq:CallR X (.builtin "len") (fun xs H Q=>∃ p ys,xs = [.ref p] ∧ (SqL X.K H p ys ∨ SqT X.K H p ys) ∧ Q (.int ys.length) H):=by
  intro pins s σ H xs us Q I r h
  obtain ⟨p,ys,rfl,hq,q⟩:=h
  obtain ⟨u,rfl,rx⟩:=vals1 r
  cases rx
  have hn:=line63
  rcases hq with hq | hq
  · obtain ⟨its,r',pl,hz⟩:=I.list hq
    have hlen:=r'.length
    exact Calls.call_len_list pl.isList (by simp only [List.size_toArray] <;> omega) ⟨.int ys.length,H,I.tok _,⟨s.toks + 1,by rw [List.size_toArray,hlen]⟩,q⟩
  · obtain ⟨its,r',pl,hz⟩:=I.tuple hq
    have hlen:=r'.length
    exact len_tuple pl (by simp only [List.size_toArray] <;> omega) ⟨.int ys.length,H,I.tok _,⟨s.toks + 1,by rw [List.size_toArray,hlen]⟩,q⟩
theorem call_len_str:CallR X (.builtin "len") (fun xs H Q=>∃ z,xs = [.str z] ∧ z.length ≤ sizeLine ∧ Q (.int z.length) H):=by
  intro pins s σ H xs us Q I r h
  obtain ⟨z,rfl,hz,q⟩:=h
  obtain ⟨u,rfl,t,rfl⟩:=vals1 r
  have hn:=line63
  exact len_str (by omega) ⟨.int z.length,H,I.tok _,⟨_,rfl⟩,q⟩
theorem CallR.or {f:Value} {r r':List V → Hp → VK → Prop} (h:CallR X f r) (h':CallR X f r'):CallR X f (fun xs H Q=>r xs H Q ∨ r' xs H Q):=by
  intro pins s σ H xs us Q I rs q
  rcases q with q | q
  · exact h pins s σ H xs us Q I rs q
  · exact h' pins s σ H xs us Q I rs q
theorem call_list_of:CallR X (.type "list") (fun xs H Q=>∃ p ys,xs = [.ref p] ∧ (SqL X.K H p ys ∨ SqT X.K H p ys) ∧ ∀ l,H l = none → Q (.ref l) (upd H l (.lst ys))):=by
  intro pins s σ H xs us Q I r h
  obtain ⟨p,ys,rfl,hq,q⟩:=h
  obtain ⟨u,rfl,rx⟩:=vals1 r
  cases rx
  have fin:∀ (its:List Value),Vals ys its → ys.length ≤ sizeLine → ∀ (h':Heap) (c':Nat),(∀ b o',s.heap.get? b = some o' → h'.get? b = some o') →
      h'.get? s.heap.objs.size = some { cls:=.type "list", dict:=none,data:=.seq its.toArray c',slots:=#[] } → EP X pins σ Q (.ref s.heap.objs.size) { s with heap:=h' }:=fun its r' hz h' c' kp e =>
    ⟨.ref s.heap.objs.size,_,I.laid (t':=s.toks) kp (Nat.le_refl _) (show ObjOk X.prog X.w _ h' _ (.lst ys) from ⟨hz,its,c',r',e⟩),rfl,q _ (I.hok.fresh (Nat.le_refl _))⟩
  rcases hq with hq | hq
  · obtain ⟨its,r',pl,hz⟩:=I.list hq
    have hlen:=r'.length
    obtain ⟨o,ho,hc,n,hd⟩:=pl.isList
    exact call_list_seq p (.inl rfl) ho hc hd (fun h' c' kp e=>fin its r' hz h' c' kp e) (by simp only [List.size_toArray] <;> omega)
  · obtain ⟨its,r',pl,hz⟩:=I.tuple hq
    have hlen:=r'.length
    obtain ⟨o,ho,hc,n,hd⟩:=pl
    exact call_list_seq p (.inr rfl) ho hc hd (fun h' c' kp e=>fin its r' hz h' c' kp e) (by simp only [List.size_toArray] <;> omega)
def tyV (K:PySem.W.Frag) (T:String) (x:V) (H:Hp):Prop:=match x with
  | .str _=>T = "str"
  | .int _=>T = "int"
  | .ref p=>(T = "list" ∧ ∃ xs,SqL K H p xs) ∨ (T = "tuple" ∧ ∃ o,K.lookup p = some o ∧ o.cls = .type "tuple" ∧ o.dict = none) ∨
      (T = "dict" ∧ ((∃ kvs,H p = some (.dK kvs)) ∨ ∃ kvs,H p = some (.dT kvs))) ∨ (T = "set" ∧ ∃ S n,H p = some (.set S n))
  | _=>False
theorem tyV_is {pins:List (Addr × Obj)} {σ:St} {H:Hp} {s:Shared} {T:String} {x:V} {v:Value} (I:Inv X pins σ H s) (r:RelV x v) (ty:tyV X.K T x H) :
    s.TypeIs v T ∧ ∀ a,v = .ref a → ∃ ob,s.heap.get? a = some ob ∧ ob.dict = none:=by
  cases x with
  | str z =>
    obtain ⟨t,rfl⟩:=r
    cases (show T = "str" from ty)
    exact ⟨typeIs_str s z t,fun _ e=>nomatch e⟩
  | int i =>
    obtain ⟨t,rfl⟩:=r
    cases (show T = "int" from ty)
    exact ⟨typeIs_int s i t,fun _ e=>nomatch e⟩
  | ref p =>
    cases r
    rcases ty with ⟨rfl,xs,hq⟩ | ⟨rfl,o,hk,hc,hd⟩ | ⟨rfl,hk⟩ | ⟨rfl,S,n,hk⟩
    · obtain ⟨its,_,pl,_⟩:=I.list hq
      refine ⟨pl.isList.typeIs,fun a e=>?_⟩
      cases e
      obtain ⟨o,n,e,c,hd,_⟩:=pl
      exact ⟨o,e,hd⟩
    · refine ⟨⟨o,I.kIn p o hk,hc⟩,fun a e=>?_⟩
      cases e
      exact ⟨o,I.kIn _ o hk,hd⟩
    · have z:∃ o,s.heap.get? p = some o ∧ o.ExactDict:=by
        rcases hk with ⟨kvs,hk⟩ | ⟨kvs,hk⟩
        · obtain ⟨_,_,_,_,o,_,_,e,ex,_⟩:=I.hok p _ hk
          exact ⟨o,e,ex⟩
        · obtain ⟨_,_,_,_,o,_,_,e,ex,_⟩:=I.hok p _ hk
          exact ⟨o,e,ex⟩
      obtain ⟨o,e,ex⟩:=z
      refine ⟨⟨o,e,ex.1⟩,fun a e2=>?_⟩
      cases e2
      exact ⟨o,e,ex.2.1⟩
    · obtain ⟨o,_,_,_,e,ex,_⟩:=I.hok p _ hk
      refine ⟨⟨o,e,ex.1⟩,fun a e2=>?_⟩
      cases e2
      exact ⟨o,e,ex.2.1⟩
  | _=>exact False.elim ty
def tBM (K:PySem.W.Frag) (T:String) (r:V → List V → Hp → VK → Prop) (to:TE) (t:TA):TE:=fun σ H Q=>to σ H fun x H1=>tyV K T x H1 ∧ t σ H1 fun xs H2=>r x xs H2 Q
variable {o e:Expr} {es:List Expr} {to:TE} {t:TA} {name:Str} {apos cpos:Pos} {T id:String} {r:V → List V → Hp → VK → Prop}
theorem pe_bm (pa:PlainAttrs T) (slot:Slot T name id) (hty:typeOf (.builtin id) = pure (.type "method_descriptor")) (hm:MtR X id r) (ho:PE X o to) (ha:PA X (e :: es) t)
    (hbase:attributeBase o name X.env (eval o X.env) = eval o X.env:=by rfl)
    (hfew:((backTo cpos (starEach (e :: es) X.env)).all (fun x=>!x.1) && (backToKw cpos (keywordEach [] X.env)).all (fun x=>x.1.isSome)
      && decide ((e :: es).length + ([]:List Keyword).length + (if ([]:List Keyword).isEmpty then 0 else 1) < 30)) = true:=by rfl)
    (hline:(apos.endLine == cpos.line) = true:=by rfl) (hs:starEach (e :: es) X.env = (false,eval e X.env) :: starEach es X.env:=by rfl) (hplain:(backTo cpos (starEach es X.env)).any (·.1) = false:=by rfl) :
    PE X (.Call (.Attribute o name apos) (e :: es) [] cpos) (tBM X.K T r to t):=by
  intro pins s σ H Q I h
  refine wpAny_Call_method_late hbase hfew hline rfl (thn (ho pins s σ H _ I h) fun v s1 ⟨x,H1,I1,r1,ty,q1⟩=>?_)
  obtain ⟨h1,h2⟩:=tyV_is I1 r1 ty
  refine ⟨T,id,pa,slot,hty,h1,h2,?_⟩
  have hA:=ha cpos pins s1 σ H1 _ I1 q1
  rw [hs] at hA ⊢
  refine Calls.callWith_builtin (by show (false || (backTo cpos (starEach es X.env)).any (·.1)) = false; rw [hplain] <;> rfl) (Calls.evalArgs_plain ?_)
  exact thn hA fun us s2 ⟨vs,H2,I2,r2,q2⟩=>hm pins s2 σ H2 x vs v us Q I2 r1 r2 q2
/- xs.append(e),list.index on a module's tuple .. are MtR facts of 06m -/
end
end L2
namespace L2
open PySem PySem.Spec PyProof.Rows
def MtM (X:Cx) (id:String) (r:V → List V → Hp → VK → Prop):Prop :=
  ∀ (pins:List (Addr × Obj)) (s:Shared) (σ:St) (H:Hp) (x:V) (xs:List V) (v:Value) (us:List Value) (Q:VK),Inv X pins σ H s → RelV x v → Vals xs us → r x xs H Q →
    wpAny (model X.prog X.w) X.A (call (.builtin id) (v :: us)) (EP X pins σ Q) X.xe s
theorem Vals.one:∀ {x:V} {us:List Value},Vals [x] us → ∃ u,us = [u] ∧ RelV x u
  | _,_,.cons r .nil=>⟨_,rfl,r⟩
theorem Vals.two:∀ {x y:V} {us:List Value},Vals [x,y] us → ∃ u v,us = [u,v] ∧ RelV x u ∧ RelV y v
  | _,_,_,.cons r (.cons q .nil)=>⟨_,_,rfl,r,q⟩
theorem Vals.reverse {xs:List V} {us:List Value} (h:Vals xs us):Vals xs.reverse us.reverse:=by
  induction h with
  | nil=>exact .nil
  | cons r t ih=>rw [List.reverse_cons,List.reverse_cons]; exact Vals.append ih (.cons r .nil)
theorem Vals.rep {xs:List V} {us:List Value} (h:Vals xs us):∀ k:Nat,Vals (List.replicate k xs).flatten (List.replicate k us).flatten
  | 0=>.nil
  | k + 1=>by
    rw [List.replicate_succ,List.replicate_succ,List.flatten_cons,List.flatten_cons]
    exact Vals.append h (Vals.rep h k)
section
variable {X:Cx} {pins:List (Addr × Obj)} {σ:St} {H:Hp} {s:Shared} {l b:Addr} {xs ys zs:List V}
theorem Inv.lset {its its':List Value} {n:Nat} {f:Array Value → Array Value} {t':Nat} (I:Inv X pins σ H s) (hH:H l = some (.lst xs))
    (e:s.heap.get? l = some { cls:=.type "list", data:=.seq its.toArray n }) (hf:f its.toArray = its'.toArray) (hv:Vals ys its') (hz:ys.length ≤ sizeLine) :
    Inv X pins σ (upd H l (.lst ys)) { s with heap:=s.heap.update l (Obj.mapSeq f),toks:=t' }:=by
  have q:=PySem.IsL.update e f
  rw [hf] at q
  refine I.write (x:=l) (e:=l) (by rw [hH]; exact trivial) (.inl rfl) (fun b' u hb hu=>(Heap.get?_update_other s.heap (Obj.mapSeq f) (Ne.symm hb)).trans hu) ⟨_,q⟩ ?_
  exact ⟨hz,its',_,hv,q⟩
theorem Inv.lnew {its:List Value} {t':Nat} (I:Inv X pins σ H s) (hv:Vals ys its) (hz:ys.length ≤ sizeLine) :
    Inv X pins σ (upd H s.heap.objs.size (.lst ys)) { s with heap:=s.heap.push { cls:=.type "list", data:=.seq its.toArray },toks:=t' } :=
  I.laid (fun _ _ q=>Heap.get?_push_of_some _ q) (Nat.le_refl _) ⟨hz,its,0,hv,Heap.get?_push_size _ rfl⟩
theorem Inv.fresh (I:Inv X pins σ H s):H s.heap.objs.size = none:=I.hok.fresh (Nat.le_refl _)
theorem Inv.lstM (I:Inv X pins σ H s) (hH:H l = some (.lst xs)):xs.length ≤ sizeLine ∧ ∃ (its:List Value) (n:Nat),Vals xs its ∧ xs.length = its.length ∧ s.heap.get? l = some { cls:=.type "list", data:=.seq its.toArray n }:=by
  obtain ⟨z,its,n,r,e⟩:=I.hok l _ hH
  exact ⟨z,its,n,r,r.length,e⟩
end
section
variable {X:Cx}
def rAppend:V → List V → Hp → VK → Prop:=fun x vs H Q=>∃ l xs y,x = .ref l ∧ vs = [y] ∧ H l = some (.lst xs) ∧ xs.length < sizeLine ∧ Q .non (upd H l (.lst (xs ++ [y])))
theorem mt_append:MtM X "list.append" rAppend:=by
  intro pins s σ H x vs v us Q I rx rv h
  obtain ⟨l,xs,y,rfl,rfl,hH,hz,q⟩:=h
  cases rx
  obtain ⟨u,rfl,ru⟩:=rv.one
  obtain ⟨z,its,n,r,hl,e⟩:=I.lstM hH
  refine call_meets F.slot_list_append ⟨_,e,rfl⟩ F.entry_list_append (F.args_list_append_2 _ _) (PySem.list_append l its.toArray n u (by rw [List.size_toArray]; omega)) ⟨e,?_⟩
  refine ⟨.non,_,I.lset (its':=its ++ [u]) hH e (by simp) (r.append (.cons ru .nil)) ?_,rfl,q⟩
  rw [List.length_append,List.length_singleton]
  omega
def rCat:R2:=fun x y H Q=>∃ l b xs zs,x = .ref l ∧ y = .ref b ∧ H l = some (.lst xs) ∧ H b = some (.lst zs) ∧ xs.length + zs.length ≤ sizeLine ∧ ∀ p,H p = none → Q (.ref p) (upd H p (.lst (xs ++ zs)))
theorem op_cat:OpR X (binaryOp .Add) rCat:=by
  intro pins s σ H x y v u Q I rx ry h
  obtain ⟨l,b,xs,zs,rfl,rfl,hH,hB,hz,q⟩:=h
  cases rx
  cases ry
  obtain ⟨z,its,n,r,hl,e⟩:=I.lstM hH
  obtain ⟨z2,its2,n2,r2,hl2,e2⟩:=I.lstM hB
  refine PySem.P.add_list e e2 ?_ (by rw [List.size_toArray,List.size_toArray]; omega)
  have ea:its.toArray ++ its2.toArray = (its ++ its2).toArray:=by simp
  rw [ea]
  exact ⟨.ref _,_,I.lnew (t':=s.toks) (r.append r2) (by rw [List.length_append]; omega),rfl,q _ I.fresh⟩
end
section
variable {prog:Program} {w:World} {A:Around} {E:Value → Shared → Prop} {s:Shared}
end
section
variable {X:Cx}
end
end L2
namespace Att
open PySem PySem.W PySem.Calls PyProof.Rows
theorem ints_of_wellAll {P:Params} {h:Heap}:∀ (ns:List Int) (vs:List Value),WellAll P h vs (ns.map WData.int) → IntsAre vs ns:=by
  intro ns
  induction ns with
  | nil =>
    intro vs w
    rw [List.map_nil] at w
    cases w
    exact .nil
  | cons n ns ih =>
    intro vs w
    rw [List.map_cons] at w
    cases w with
    | cons a b =>
      cases a
      exact .cons _ _ (ih _ b)
theorem script_of {l:OpenLaw} {n:Nat} (hn:l.most = some n) {P:Params} {h:Heap} {args:List WData} {vals:List Value}
    (hpre:l.row.toRowW.claim.pre args = true) (hwl:WellAll P h vals args) :
    ∃ a vs ns,vals = [Value.ref a] ∧ args = [WData.list (ns.map WData.int)] ∧ h.get? a = some { cls:=.type "list", data:=.seq vs.toArray } ∧ IntsAre vs ns ∧ ns.length ≤ n:=by
  have hsh:WShape.hasAll [] args [.list .int] = true:=(pre_splitW hpre).1
  have hc:l.pre.holds [] { args:=args } = true:=(pre_splitW hpre).2
  obtain ⟨d,r,rfl,h1,h2⟩:=hasAllW_cons hsh
  obtain rfl:=hasAllW_nil h2
  obtain ⟨xs,rfl,h3⟩:=hasW_list h1
  obtain ⟨ns,rfl⟩:=items_int h3
  have hlen:ns.length ≤ n:=by
    unfold OpenLaw.pre at hc
    have h4:(WTm.not (.lt (.lit (.int (n:Int))) (.len (.arg 0)))).holds [] { args:=[.list (ns.map .int)] } = true:=by
      have h4:=(holds_andW hc).1
      rw [hn] at h4
      exact h4
    have h5:=condW_of h4 (w_not (w_lt w_lit (w_len_list (w_arg rfl))))
    rw [List.length_map] at h5
    refine Nat.le_of_not_lt fun q=>?_
    have q':(n:Int) < ((ns.length:Nat):Int):=by omega
    first
      | (rw [decide_eq_true q'] at h5; exact absurd h5 (by decide))
      | (simp at h5; omega)
  cases hwl with
  | cons w1 w2 =>
    cases w2
    cases w1 with
    | list ho hall=>exact ⟨_,_,ns,rfl,rfl,ho,ints_of_wellAll ns _ hall,hlen⟩
theorem post_true (l:OpenLaw) (args:List WData):l.row.toRowW.claim.post args (.bool true) args = true :=
  postW_of (r:=l.row.toRowW) (X:=(true == true))
    (show WShape.has [] (.bool true) .bool = true by first | rfl | decide | simp [WShape.has,WShape.arms,WShape.armsAll])
    (show (WTm.eq .res (.lit (.bool true))).value [] { args:=args,res:=some (.bool true),after:=args } = some (.bool (true == true)) from w_eq_bool (w_res rfl) w_lit) rfl
theorem attach_call {l:OpenLaw} {n:Nat} {q:Program} {loose:List Str} {XP:(Str → Option Value) → Heap → Prop} {YP:World → Heap → Prop} {d:DefRec}
    (hn:l.most = some n) (hdf:d.params.defaults = [])
    (call:∀ (w:World) (s₀ s₁:Shared) (mg mb:Str → Option Value) (fa:Addr) (o:Obj) (pm cd doc:Value) (a:Addr) (vs:List Value) (ns:List Int),
      Ground q loose [] XP w s₀ mg mb s₁.heap → YP w s₁.heap →
      s₁.heap.get? fa = some o → o.data = .func (docDef d.name d.params d.body d.scope pm cd doc) → s₁.heap.CodeRec cd d.name → mg d.name = some (.ref fa) →
      s₁.heap.get? a = some { cls:=.type "list", data:=.seq vs.toArray } → IntsAre vs ns → ns.length ≤ n → s₁.gens = #[] →
      codeAny (model l.prog w) callerA (.call (.ref fa) ⟨[.ref a],[]⟩) (fun r s'=>r = .ok (.ret (.bool true)) ∧ OldK s₁.heap s'.heap ∧ s'.os = s₁.os ∧ AllBare s'.gens) s₁) :
    WalkO q loose XP YP l.row.toRowW d [] (fun f vs=>PySem.call f vs):=by
  intro w s₀ s₁ mg mb G Y fa o pm cd doc dV kV ho hd hcd hD hmg hg args vals as hpre hlay hrd hwl hlo
  obtain rfl:dV = .none:=Dflts.none hD hdf
  obtain rfl:kV = .none:=Dflts.noKw hD
  obtain ⟨a,vs,ns,rfl,rfl,hobj,hints,hlen⟩:=script_of hn hpre hwl
  refine enter_call (codeAny_mono (call w s₀ s₁ mg mb fa o pm cd doc a vs ns G Y ho (fd_plain hd) hcd hmg hobj hints hlen hg) fun r s' hq=>?_)
  obtain ⟨rfl,h2,h3,h4⟩:=hq
  exact ⟨.inl ⟨.bool true,.bool true,[],rfl,fun _=>rfl,.bool true,post_true l _,fun _=>⟨List.Pairwise.nil,fun _ hm=>(nomatch hm)⟩⟩,h2,h3,h4⟩
section
variable {prog:Program} {w:World} {A:Around} {E:Value → Shared → Prop} {s:Shared} {K:Frag}
end
end Att
namespace L2
open PySem PySem.Spec PyProof.Rows
theorem vals_ints:∀ {vs:List Value} {ns:List Int},IntsAre vs ns → Vals (ns.map V.int) vs
  | _,_,.nil=>.nil
  | _,_,.cons n t h=>.cons ⟨t,rfl⟩ (vals_ints h)
def Only (H:Hp):Prop:=∀ b,H b = none ∨ ∃ o xs,H b = some (.frz o (.lst xs))
end L2
namespace L2
open PySem PySem.Spec PyProof.Rows
end L2
namespace L2
open PySem PySem.Spec PyProof.Rows
def defArgs (s:Stmt):Arguments:=match s with
  | .FunctionDef _ a _ _ _ _ _ _ _ _=>a
  | _=>{ posonlyargs:=[],args:=[],vararg:=none,kwonlyargs:=[],kw_defaults:=[],kwarg:=none,defaults:=[] }
def defBody (s:Stmt):List Stmt:=match s with
  | .FunctionDef _ _ b _ _ _ _ _ _ _=>b
  | _=>[]
def defScope (s:Stmt):Scope:=match s with
  | .FunctionDef _ _ _ _ _ _ sc _ _ _=>sc
  | _=>{ kind:=.function,names:=[],isGenerator:=false,isCoroutine:=false }
abbrev CX0:CXT:=fun _ _ _ _ _ _=>False
abbrev E0:XK:=fun _ _ _=>False
theorem pass0 {X:Cx}:Passes CX0 X E0:=fun _ _ _ _ _ _ _ h=>h.elim
structure Fun (K:PySem.W.Frag) (x qual:Str) (st:Stmt) (f:Addr) (fd:FuncData):Prop where
  ex:∃ (oc:Value) (od:Option Addr) (kV doc pm:Value) (an:Option Addr) (cdv ct:Value) (osl:Array (Option Value)),
    fd = PySem.W.fnOf x qual (defArgs st) (defBody st) (defScope st) .none kV doc pm an cdv ct ∧ K.lookup f = some ⟨oc,od,.func fd,osl⟩ ∧ PySem.W.codeIn K cdv qual = true
  kp:PySem.W.keepIn K (.ref f) = true
section
variable {P:Program} {w:World} {K:PySem.W.Frag} {mg:Str → Option Value} {base:Heap}
theorem Fun.ok {x qual:Str} {st:Stmt} {f:Addr} {fd:FuncData} {N ps:List Str} {k:Nat} {sp:Sp} (F:Fun K x qual st f fd) (S:FnScope N ps (defScope st)) (len:∀ vs H Q E,sp vs H Q E → vs.length = ps.length)
    (hbody:∀ (cdv:Value) (A:Around) (outer:List Env) (s:Shared) (H:Hp) (vs:List V) (Q:VK) (E:XK),Room k (A.deeper (envOfC qual (defScope st) s.heap.objs.size f cdv)) → sp vs H Q E →
      ∃ t,PSs (cxOf CX0 P w K mg base N qual (defScope st) f cdv A outer s H E).nox (defBody st) t ∧ t { nx:=fun _ H'=>Q .non H',rt:=Q } (start N vs) H):FnOk P w K mg base CX0 (k + 1) f fd ps sp:=by
  obtain ⟨oc,od,kV,doc,pm,an,cdv,ct,osl,rfl,lk,hcd⟩:=F.ex
  refine fn_of lk hcd S len fun A outer s H vs Q E hr hsp=>?_
  obtain ⟨t,h,q⟩:=hbody cdv A outer s H vs Q E hr hsp
  exact ⟨t,h.nox,q⟩
theorem Fun.binds {x qual:Str} {st:Stmt} {f:Addr} {fd:FuncData} {ps:List Str} (F:Fun K x qual st f fd)
    (h:∀ (kV doc pm:Value) (an:Option Addr) (cdv ct:Value) (us:List Value),us.length = ps.length → bindArgs (PySem.W.fnOf x qual (defArgs st) (defBody st) (defScope st) .none kV doc pm an cdv ct) ⟨us,[]⟩ = pure (ps.zip us)):Binds K fd ps []:=by
  obtain ⟨oc,od,kV,doc,pm,an,cdv,ct,osl,rfl,lk,hcd⟩:=F.ex
  exact .all (h kV doc pm an cdv ct)
theorem fun_mk {x qual:Str} {st:Stmt} {f:Addr} {oc:Value} {od an:Option Addr} {osl:Array (Option Value)} {kV doc pm cdv ct:Value} (l:K.lookup f = some ⟨oc,od,.func (PySem.W.fnOf x qual (defArgs st) (defBody st) (defScope st) .none kV doc pm an cdv ct),osl⟩)
    (c:PySem.W.codeIn K cdv qual = true) (k:PySem.W.keepIn K (.ref f) = true):Fun K x qual st f (PySem.W.fnOf x qual (defArgs st) (defBody st) (defScope st) .none kV doc pm an cdv ct):=⟨⟨oc,od,kV,doc,pm,an,cdv,ct,osl,rfl,l,c⟩,k⟩
end
theorem hu_of {A:Around} {k:Nat} (hr:Room k A):A.units + 1 < cLine:=Nat.lt_of_le_of_lt (Nat.add_le_add_left (by decide:1 ≤ 64) _) hr.units
theorem small1000 {n:Nat} (h:n ≤ 1000):n < sizeLine:=Nat.lt_of_le_of_lt h (by decide)
section
variable {X:Cx}
theorem pv (i:Nat) {x:Str} {pos:Pos} (hN:X.N[i]? = some x:=by rfl) (hv:Vis X.env.scope x:=by first | exact Or.inl rfl | exact Or.inr (Or.inl rfl) | exact Or.inr (Or.inr rfl)) (hd:(x == ("__debug__" : Str)) = false:=by decide)
    (hcd:(x == ("__classdict__" : Str)) = false:=by decide):PE X (.Name x pos) (tVar i):=pe_var hN hv hd hcd
end
theorem iteF {A B:Prop} (h:B):if false = true then A else B:=by
  rw [if_neg Bool.false_ne_true]
  exact h
theorem iteT {A B:Prop} (h:A):if true = true then A else B:=by
  rw [if_pos rfl]
  exact h
def Same (H H':Hp):Prop:=∀ b o,H b = some o → H' b = some o
theorem Same.refl (H:Hp):Same H H:=fun _ _ h=>h
theorem Same.trans {H H1 H2:Hp} (a:Same H H1) (b:Same H1 H2):Same H H2:=fun c o h=>b c o (a c o h)
theorem Same.free {H H':Hp} (e:Same H H') {l:Addr} (h:H' l = Option.none):H l = Option.none:=by
  cases q:H l with
  | none=>rfl
  | some o =>
    rw [e l o q] at h
    cases h
theorem Same.seq {K:PySem.W.Frag} {H H':Hp} {a:Addr} {xs:List V} (e:Same H H') (h:SqL K H a xs):SqL K H' a xs:=by
  rcases h with (h | ⟨o,h⟩) | h
  · exact .inl (.inl (e _ _ h))
  · exact .inl (.inr ⟨o,e _ _ h⟩)
  · exact .inr h
end L2
set_option Elab.async false
set_option linter.all false
set_option maxRecDepth 100000
namespace L2
open PySem PySem.Spec PyProof.Rows
def captS (cp:List (Option Nat)) (σ:St):St:=cp.map fun o=>match o with
  | none=>none
  | some j=>(σ[j]?).getD none
structure CompSc (esc sc:Scope) (XN N:List Str) (cp:List (Option Nat)):Prop where
  kind:sc.kind = .function
  nocell:∀ y ∈ sc.names,y.2 ≠ .cell
  names:∀ y ∈ sc.names,y.2 = .local → sc.names.lookup y.1 = some .local
  free:∀ y ∈ sc.names,y.2 = .free → esc.names.lookup y.1 = some .cell ∨ esc.names.lookup y.1 = some .free
  len:cp.length = N.length
  nd:N.Nodup
  cap:((N.zip cp).all fun p=>match p.2 with
    | none=>true
    | some j=>decide (XN[j]? = some p.1) && decide (sc.names.lookup p.1 = some .free)) = true
theorem CompSc.capt {esc sc:Scope} {XN N:List Str} {cp:List (Option Nat)} (S:CompSc esc sc XN N cp) {i j:Nat} {x:Str} (hN:N[i]? = some x) (hc:cp[i]? = some (some j)) :
    XN[j]? = some x ∧ sc.names.lookup x = some .free:=by
  have hm:(x,some j) ∈ N.zip cp:=by
    have e:(N.zip cp)[i]? = some (x,some j):=by
      rw [List.getElem?_zip_eq_some]
      exact ⟨hN,hc⟩
    exact List.mem_of_getElem? e
  have q:=List.all_eq_true.mp S.cap _ hm
  simp only [Bool.and_eq_true,decide_eq_true_eq] at q
  exact q
theorem captS_get {cp:List (Option Nat)} {σ:St} {i:Nat} {v:V} (h:(captS cp σ)[i]? = some (some v)):∃ j,cp[i]? = some (some j) ∧ σ[j]? = some (some v):=by
  unfold captS at h
  rw [List.getElem?_map] at h
  cases e:cp[i]? with
  | none=>rw [e] at h; cases h
  | some o =>
    rw [e] at h
    cases o with
    | none=>cases h
    | some j =>
      refine ⟨j,rfl,?_⟩
      simp only [Option.map_some,Option.some.injEq] at h
      cases e2:σ[j]? with
      | none=>rw [e2] at h; cases h
      | some w=>rw [e2] at h; simpa using h
theorem forIn_yield_fold {α β:Type} {f:α → β → Sem (ForInStep β)} (k:α → β → β):∀ (l:List α) (c:β),(∀ x ∈ l,∀ c,f x c = pure (.yield (k x c))) → forIn l c f = (pure (l.foldl (fun c x=>k x c) c):Sem β)
  | [],c,_=>rfl
  | x :: l,c,h=>by
    rw [List.forIn_cons,h x List.mem_cons_self c]
    show forIn l (k x c) f = _
    exact forIn_yield_fold k l (k x c) fun y hy c=>h y (List.mem_cons_of_mem _ hy) c
structure ClOk (env:Env) (sc:Scope) (cl:List (Str × Addr)):Prop where
  clos:closureFor sc env = pure cl
  sub:∀ x c,cl.lookup x = some c → env.cells.lookup x = some c
  has:∀ y ∈ sc.names,y.2 = .free → ∃ c,cl.lookup y.1 = some c
theorem closure_ok {env:Env} {sc:Scope} (h:∀ y ∈ sc.names,y.2 = .free → ∃ c,env.cells.lookup y.1 = some c):∃ cl,ClOk env sc cl:=by
  let k:Str × NameKind → List (Str × Addr) → List (Str × Addr):=fun y c=>if y.2 = .free then (y.1,(env.cells.lookup y.1).getD 0) :: c else c
  have e:closureFor sc env = pure (sc.names.foldl (fun c x=>k x c) []):=by
    simp only [closureFor]
    rw [forIn_yield_fold k sc.names [] (fun x hx c=>by
      obtain ⟨n,kd⟩:=x
      by_cases hk:kd = .free
      · subst hk
        obtain ⟨a,ha⟩:=h _ hx rfl
        have hca:cellOf env n = pure a:=by unfold cellOf; rw [show env.cells.lookup n = some a from ha]
        have hkk:k (n,NameKind.free) c = (n,a) :: c:=by
          show (if NameKind.free = .free then (n,(env.cells.lookup n).getD 0) :: c else c) = _
          rw [if_pos rfl,show env.cells.lookup n = some a from ha]; rfl
        rw [hkk]
        simp only [beq_self_eq_true,if_true,hca]
        rfl
      · have hb:(kd == NameKind.free) = false:=by simpa using hk
        have hkk:k (n,kd) c = c:=by
          show (if kd = .free then _ else c) = _
          rw [if_neg hk]
        rw [hkk]
        simp only [hb,Bool.false_eq_true,if_false])]
    rfl
  have go:∀ (l:List (Str × NameKind)) (acc:List (Str × Addr)),(∀ y ∈ l,y.2 = .free → ∃ c,env.cells.lookup y.1 = some c) → (∀ x c,acc.lookup x = some c → env.cells.lookup x = some c) →
      (∀ x c,(l.foldl (fun c x=>k x c) acc).lookup x = some c → env.cells.lookup x = some c) ∧ (∀ y ∈ l,y.2 = .free → ∃ c,(l.foldl (fun c x=>k x c) acc).lookup y.1 = some c) ∧
      ∀ x c,acc.lookup x = some c → ∃ c,(l.foldl (fun c x=>k x c) acc).lookup x = some c:=by
    intro l
    induction l with
    | nil=>intro acc _ h2; exact ⟨h2,fun y hy=>(nomatch hy),fun x c e=>⟨c,e⟩⟩
    | cons y l ih =>
      intro acc h1 h2
      have h1':∀ z ∈ l,z.2 = .free → ∃ c,env.cells.lookup z.1 = some c:=fun z hz=>h1 z (List.mem_cons_of_mem _ hz)
      by_cases hk:y.2 = .free
      · obtain ⟨a,ha⟩:=h1 y List.mem_cons_self hk
        have ek:k y acc = (y.1,a) :: acc:=by show (if y.2 = .free then _ else _) = _; rw [if_pos hk,ha]; rfl
        have h2':∀ x c,((y.1,a) :: acc).lookup x = some c → env.cells.lookup x = some c:=fun x c e=>by
          rw [List.lookup_cons] at e
          cases hx:x == y.1 with
          | true=>rw [hx] at e; cases e; rw [eq_of_beq hx]; exact ha
          | false=>rw [hx] at e; exact h2 x c e
        obtain ⟨p,q,r⟩:=ih ((y.1,a) :: acc) h1' h2'
        rw [List.foldl_cons,ek]
        refine ⟨p,fun z hz hf=>?_,fun x c e=>?_⟩
        · rcases List.mem_cons.mp hz with e | hz
          · subst e; exact r z.1 a (by simp [List.lookup_cons])
          · exact q z hz hf
        · cases hx:x == y.1 with
          | true=>exact r x a (by simp [List.lookup_cons,hx])
          | false=>exact r x c (by simp [List.lookup_cons,hx,e])
      · have ek:k y acc = acc:=by show (if y.2 = .free then _ else _) = _; rw [if_neg hk]
        obtain ⟨p,q,r⟩:=ih acc h1' h2
        rw [List.foldl_cons,ek]
        refine ⟨p,fun z hz hf=>?_,r⟩
        rcases List.mem_cons.mp hz with e | hz
        · subst e; exact absurd hf hk
        · exact q z hz hf
  obtain ⟨p,q,_⟩:=go sc.names [] h (fun x c e=>by cases e)
  exact ⟨_,e,p,q⟩
theorem relabel_free {env:Env}:∀ {names:List (Str × NameKind)} {x:Str},names.lookup x = some .free →
    ((names.map fun (n,k)=>if (k == NameKind.free && env.scope.kind == .function && env.kindOf n == some .cell) then (n,NameKind.cell) else (n,k)).lookup x = some .cell ∨
     (names.map fun (n,k)=>if (k == NameKind.free && env.scope.kind == .function && env.kindOf n == some .cell) then (n,NameKind.cell) else (n,k)).lookup x = some .free)
  | [],_,h=>by simp at h
  | (n,k) :: r,x,h=>by
    have ih:=@relabel_free env r x
    show List.lookup x ((if (k == NameKind.free && env.scope.kind == .function && env.kindOf n == some .cell) = true then (n,NameKind.cell) else (n,k)) :: _) = _ ∨ List.lookup x ((if (k == NameKind.free && env.scope.kind == .function && env.kindOf n == some .cell) = true then (n,NameKind.cell) else (n,k)) :: _) = _
    cases hx:x == n with
    | true =>
      simp only [List.lookup_cons,hx] at h
      cases h
      by_cases hc:(NameKind.free == NameKind.free && env.scope.kind == .function && env.kindOf n == some .cell) = true
      · rw [if_pos hc]; left; simp [List.lookup_cons,hx]
      · rw [if_neg hc]; right; simp [List.lookup_cons,hx]
    | false =>
      simp only [List.lookup_cons,hx] at h
      by_cases hc:(k == NameKind.free && env.scope.kind == .function && env.kindOf n == some .cell) = true
      · rw [if_pos hc]; simp only [List.lookup_cons,hx]; exact ih h
      · rw [if_neg hc]; simp only [List.lookup_cons,hx]; exact ih h
theorem relabel_inv {env:Env} {names:List (Str × NameKind)} {x:Str} (hn:∀ y ∈ names,y.2 ≠ .cell)
    (h:(names.map fun (n,k)=>if (k == NameKind.free && env.scope.kind == .function && env.kindOf n == some .cell) then (n,NameKind.cell) else (n,k)).lookup x = some .cell ∨
     (names.map fun (n,k)=>if (k == NameKind.free && env.scope.kind == .function && env.kindOf n == some .cell) then (n,NameKind.cell) else (n,k)).lookup x = some .free):∃ y ∈ names,y.1 = x ∧ y.2 = .free:=by
  have hm:∃ kd,(kd = .cell ∨ kd = .free) ∧ (x,kd) ∈ (names.map fun (n,k)=>if (k == NameKind.free && env.scope.kind == .function && env.kindOf n == some .cell) then (n,NameKind.cell) else (n,k)):=by
    rcases h with h | h
    · exact ⟨_,.inl rfl,PySem.mem_of_lookup h⟩
    · exact ⟨_,.inr rfl,PySem.mem_of_lookup h⟩
  obtain ⟨kd,hk,hm⟩:=hm
  obtain ⟨⟨n,k⟩,hy,e⟩:=List.mem_map.mp hm
  have e':(if (k == NameKind.free && env.scope.kind == .function && env.kindOf n == some .cell) = true then (n,NameKind.cell) else (n,k)) = (x,kd):=e
  by_cases hc:(k == NameKind.free && env.scope.kind == .function && env.kindOf n == some .cell) = true
  · rw [if_pos hc] at e'
    cases e'
    simp only [Bool.and_eq_true,beq_iff_eq] at hc
    exact ⟨_,hy,rfl,hc.1.1⟩
  · rw [if_neg hc] at e'
    cases e'
    rcases hk with z | z
    · exact absurd z (hn _ hy)
    · exact ⟨_,hy,rfl,z⟩
structure CompPt where
  cl:List (Str × Addr)
  C:Addr
  D:Addr
  s:Shared
  H:Hp
  fp:List Addr
  pins:List (Addr × Obj)
abbrev cxC (X:Cx) (sc:Scope) (N:List Str) (z:CompPt):Cx :=
  { X with N:=N,s₀:=z.s,H₀:=z.H,env:=compEnvC sc z.cl z.C X.env,outer:=X.stack,ex:=z.D :: z.fp,fn:=fun _=>false,pn:=X.pn ++ z.pins,xe:=fun _ _=>False }
def Sets (g:TG) (Sg:List Nat):Prop:=∀ v σ H Q,g v σ H Q → g v σ H fun σ2 H2=>Q σ2 H2 ∧ σ2.length = σ.length ∧ ∀ i,i ∉ Sg → σ2[i]? = σ[i]?
theorem sets_name (k:Nat):Sets (gName k) [k]:=fun v σ H Q h=>⟨h,by simp,fun i hi=>by
  rw [List.getElem?_set_ne]
  intro e; exact hi (by simp [e])⟩
theorem sets_two (K:PySem.W.Frag) (n k l:Nat):Sets (gTup K n (gCons (gName k) (gCons (gName l) gNil))) [k,l]:=by
  intro v σ H Q h
  obtain ⟨a,xs,e,hq,hn,v1,r1,e1,v2,r2,e2,e3,q⟩:=h
  refine ⟨a,xs,e,hq,hn,v1,r1,e1,v2,r2,e2,e3,q,by simp,fun i hi=>?_⟩
  rw [List.getElem?_set_ne,List.getElem?_set_ne]
  · intro e; exact hi (by simp [e])
  · intro e; exact hi (by simp [e])
def PIf (X:Cx) (ifs:List Expr) (t:TT):Prop :=
  ∀ (pins:List (Addr × Obj)) (s:Shared) (σ:St) (H:Hp) (Q:Bool → Hp → Prop),Inv X pins σ H s → t σ H Q →
    wpAny (model X.prog X.w) X.A (forIn ifs true fun c r=>if r = true then do let ok ← isTrue c X.env (eval c X.env); pure (ForInStep.yield ok) else pure (ForInStep.yield r)) (TP X pins σ Q) X.xe s
def tYes:TT:=fun _ H Q=>Q true H
theorem pif_nil {X:Cx}:PIf X [] tYes:=fun _ _ _ H _ I h=>wpAny_tests_nil ⟨H,I,h⟩
section
variable {prog:Program} {w:World} {A:Around} {R:Result → Shared → Prop} {s:Shared}
theorem codeAny_compLoop_own {elt target iter:Expr} {ifs:List Expr} {scope:Scope} {pos:Pos} {it acc:Value} {env:Env} (I:Nat → Shared → Prop)
    (turn:∀ n s,I n s → wpAny (model prog w) A (pyNext it) (fun r s₁=>match r with
      | none=>R (.ok .next) s₁
      | some v=>wpAny (model prog w) A (letOwnedTupleGo target it v) (fun _ s₁'=>wpAny (model prog w) A (assign target env v) (fun _ s₂ =>
          wpAny (model prog w) A (forIn ifs true fun c r=>if r = true then do let ok ← isTrue c env (eval c env); pure (ForInStep.yield ok) else pure (ForInStep.yield r)) (fun ok s₃ =>
            if ok = true then wpAny (model prog w) A (eval elt env) (fun x s₄ =>
              wpAny (model prog w) A (call (.builtin "list.append") [acc,x]) (fun _ s₅=>∃ m,m < n ∧ I m s₅) (fun _ _=>False) s₄) (fun _ _=>False) s₃
            else ∃ m,m < n ∧ I m s₃) (fun _ _=>False) s₂) (fun _ _=>False) s₁') (fun _ _=>False) s₁) (fun _ _=>False) s)
    (n:Nat) (h:I n s) :
    codeAny (model prog w) A (.compLoop (.ListComp elt [⟨target,iter,ifs,0⟩] scope pos) 0 it acc env) R s:=by
  refine codeAny_loop rfl I (fun n s hI=>?_) n h
  show wpAny _ A ((compTurn (.ListComp elt [⟨target,iter,ifs,0⟩] scope pos) 0 it acc env).onRaise (fun x=>do noteFrame x env; theTreesLotGoes x)) _ _ s
  refine wpAny_noted ?_
  rw [compTurn_list]
  refine wpAny_bind (wpAny_standAt (wpAny_bind (wpAny_mono (turn n s hI) (fun r s₁ h₁=>?_) fun _ _ h'=>h'.elim)))
  cases r with
  | none=>exact wpAny_pure h₁
  | some v =>
    refine wpAny_bind (wpAny_mono h₁ (fun _ s₁' h₁'=>?_) fun _ _ h'=>h'.elim)
    refine wpAny_bind (wpAny_mono h₁' (fun _ s₂ h₂=>wpAny_bind (wpAny_mono h₂ (fun ok s₃ h₃=>?_) fun _ _ h'=>h'.elim)) fun _ _ h'=>h'.elim)
    cases ok with
    | false=>exact wpAny_pure ⟨rfl,h₃⟩
    | true =>
      exact wpAny_bind (wpAny_bind (wpAny_mono h₃ (fun x s₄ h₄=>wpAny_bind (wpAny_mono h₄ (fun _ s₅ h₅=>wpAny_pure (wpAny_pure ⟨rfl,h₅⟩)) fun _ _ h'=>h'.elim)) fun _ _ h'=>h'.elim))
end
end L2
set_option Elab.async false
set_option linter.all false
set_option maxRecDepth 100000
namespace L2
open PySem PySem.Spec PyProof.Rows
def accObj (its:List Value) (n:Nat):Obj:={ cls:=.type "list", data:=.seq its.toArray n }
theorem comp_start {X:Cx} {sc:Scope} {N:List Str} {cp:List (Option Nat)} {pins:List (Addr × Obj)} {σ:St} {H:Hp} {s:Shared} {fp:List Addr} {cl:List (Str × Addr)} {h4:Heap} {tk:Nat} {m:Str → Option Value}
    (S:CompSc X.env.scope sc X.N N cp) (I:Inv X pins σ H s) (hf:∀ b ∈ fp,FpOk X pins H b) (hfo:∀ b ∈ fp,∃ o,s.heap.get? b = some o) (K:ClOk X.env sc cl)
    (hns:h4.Ns (s.heap.objs.size + 1) m) (hsb:∀ b o,b ≠ s.heap.objs.size + 1 → (s.heap.push (accObj [] 0)).get? b = some o → h4.get? b = some o) :
    Inv (cxC X sc N ⟨cl,s.heap.objs.size + 1,s.heap.objs.size,{ s with heap:=s.heap.push (accObj [] 0) },H,fp,pins⟩) [(s.heap.objs.size,accObj [] 0)] (captS cp σ) H { s with heap:=h4,toks:=tk }:=by
  have I3:Inv X pins σ H { s with heap:=s.heap.push (accObj [] 0) }:=I.kept (t':=s.toks) fun b o e=>Heap.get?_push_of_some _ e
  have up:∀ b o,(s.heap.push (accObj [] 0)).get? b = some o → b < s.heap.objs.size + 1:=fun b o e=>by
    have:=Heap.lt_size e
    rwa [Heap.size_push] at this
  have old:∀ b o,(s.heap.push (accObj [] 0)).get? b = some o → h4.get? b = some o:=fun b o e=>hsb b o (Nat.ne_of_lt (up b o e)) e
  have cells:∀ x c,X.env.cells.lookup x = some c → c < s.heap.objs.size:=fun x c e=>by
    obtain ⟨v,q⟩:=I.cell x c e
    exact q.lt
  have ok:(cxC X sc N ⟨cl,s.heap.objs.size + 1,s.heap.objs.size,{ s with heap:=s.heap.push (accObj [] 0) },H,fp,pins⟩).Ok:=by
    refine ⟨I3.ok.mod,S.kind,I3.ok.glob,I3.ok.blt,by show (s.heap.push (accObj [] 0)).objs.size ≤ _; rw [Heap.size_push]; exact Nat.le_refl _,fun x y c h1 h2=>I3.ok.inj x y c (K.sub x c h1) (K.sub y c h2),fun x hx=>?_,fun x c h1 _=>(by cases h1),I3.ok.hd,I3.ok.frames,.inl rfl,
      fun b hb=>?_,I3.bs,Nat.le_trans I3.ok.bsz I3.sz,fun b o e hb=>?_,fun b hb hs=>?_,I3.stack,I3.stkFree⟩
    · obtain ⟨y,hy,e,hf⟩:=relabel_inv S.nocell hx
      obtain ⟨c,hc⟩:=K.has y hy hf
      exact ⟨c,by rw [← e]; exact hc⟩
    · have hb':b = s.heap.objs.size ∨ b ∈ fp:=by simpa using hb
      rcases hb' with rfl | hb'
      · exact ⟨Nat.ne_of_lt (Nat.lt_succ_self _),fun x c e=>Nat.ne_of_lt (cells x c (K.sub x c e))⟩
      · obtain ⟨o,e⟩:=hfo b hb'
        exact ⟨Nat.ne_of_lt (Nat.lt_succ_of_lt (Heap.lt_size e)),fun x c e=>(hf b hb').2.2.2.2.1 x c (K.sub x c e)⟩
    · have hb':b = s.heap.objs.size ∨ b ∈ fp:=by simpa using hb
      rcases hb' with rfl | hb'
      · exact absurd (Heap.lt_size (I.bk _ _ e)) (Nat.lt_irrefl _)
      · rcases (hf b hb').2.2.2.1 with z | z
        · exact I.ok.noex b o e z
        · exact absurd (Nat.lt_of_lt_of_le (Heap.lt_size e) (Nat.le_trans I.ok.bsz z)) (Nat.lt_irrefl _)
    · have hb':b = s.heap.objs.size ∨ b ∈ fp:=by simpa using hb
      have hs':=I.stkSub b hs
      rcases hb' with rfl | hb'
      · rcases List.mem_cons.mp hs' with z | z
        · exact absurd I.lt (by rw [← z]; exact Nat.lt_irrefl _)
        · exact I.nofs (Nat.le_refl _) z
      · rcases List.mem_cons.mp hs' with z | z
        · exact (hf b hb').2.1 z
        · exact (hf b hb').2.2.1 z
  have stk:∀ b,b ≠ X.env.locals → b ∉ X.fs → b ∉ frs X.stack:=fun b h1 h2 h3=>by
    rcases List.mem_cons.mp (I.stkSub b h3) with z | z
    · exact h1 z
    · exact h2 z
  refine ⟨ok,rfl,I3.bare,Un.kept old,⟨m,hns,fun i x v h1 h2 h3=>?_⟩,fun x c e=>?_,?_,fun x c e=>I3.freeC x c (K.sub x c e),fun p hp=>?_,I3.hok.kept old,?_⟩
  · obtain ⟨j,hj,hσ⟩:=captS_get h2
    obtain ⟨hXN,hfr⟩:=S.capt h1 hj
    have hXk:=S.free (x,.free) (PySem.mem_of_lookup hfr) rfl
    obtain ⟨mX,hnX,hlX⟩:=I3.loc
    obtain ⟨u,r,l⟩:=hlX j x v hXN hσ (by rcases hXk with z | z; exact .inr (.inl z); exact .inr (.inr z))
    refine ⟨u,r,.inr ⟨relabel_free hfr,?_⟩⟩
    obtain ⟨c',hc'⟩:=K.has (x,.free) (PySem.mem_of_lookup hfr) rfl
    rcases l with ⟨k,_⟩ | ⟨_,c,e,z⟩
    · have k':X.env.scope.names.lookup x = some .local:=k
      rcases hXk with q | q <;> (rw [show X.env.scope.names.lookup x = _ from q] at k'; cases k')
    · have e2:=K.sub x c' hc'
      have ec:c = c':=by
        rw [e] at e2
        exact Option.some.inj e2
      exact ⟨c',hc',by rw [← ec]; exact z.keeps old⟩
  · obtain ⟨v,q⟩:=I3.cell x c (K.sub x c e)
    exact ⟨v,q.keeps old⟩
  · exact I.hok.fresh (Nat.le_succ _)
  · rcases List.mem_append.mp hp with z | z
    · obtain ⟨e,n,ne,nf,d⟩:=I3.pin p z
      exact ⟨old _ _ e,n,Nat.ne_of_lt (up _ _ e),stk _ ne nf,d⟩
    · have e:p = (s.heap.objs.size,accObj [] 0):=by simpa using z
      subst e
      refine ⟨old _ _ (Heap.get?_push_size _ rfl),I.hok.fresh (Nat.le_refl _),Nat.ne_of_lt (Nat.lt_succ_self _),stk _ (Nat.ne_of_gt I.lt) (I.nofs (Nat.le_refl _)),fun v q=>?_⟩
      have q':Data.seq _ _ = Data.cell v:=q
      cases q'
  · show (cp.map _).length = N.length
    rw [List.length_map]
    exact S.len
theorem comp_end {X:Cx} {sc:Scope} {N:List Str} {pins pins':List (Addr × Obj)} {σ σ':St} {H H5:Hp} {s s5:Shared} {fp:List Addr} {cl:List (Str × Addr)} {ys:List V} {its:List Value} {n:Nat}
    (I:Inv X pins σ H s) (hf:∀ b ∈ fp,FpOk X pins H b)
    (I5:Inv (cxC X sc N ⟨cl,s.heap.objs.size + 1,s.heap.objs.size,{ s with heap:=s.heap.push (accObj [] 0) },H,fp,pins⟩) pins' σ' H5 s5)
    (hD:s5.heap.get? s.heap.objs.size = some (accObj its n)) (hn:H5 s.heap.objs.size = none) (rv:Vals ys its) (hz:ys.length ≤ sizeLine) :
    Inv X pins σ (upd H5 s.heap.objs.size (.lst ys)) s5 ∧ FpOk X pins (upd H5 s.heap.objs.size (.lst ys)) (s.heap.objs.size + 1):=by
  have hH:H s.heap.objs.size = none:=I.hok.fresh (Nat.le_refl _)
  have lt:∀ b o,s.heap.get? b = some o → b ≠ s.heap.objs.size:=fun b o e=>Nat.ne_of_lt (Heap.lt_size e)
  have psh:∀ b o,s.heap.get? b = some o → (s.heap.push (accObj [] 0)).get? b = some o:=fun b o e=>Heap.get?_push_of_some _ e
  have nx:∀ b o,s.heap.get? b = some o → b ∉ fp → b ∉ s.heap.objs.size :: fp:=fun b o e h1 h2=>by
    rcases List.mem_cons.mp h2 with z | z
    · exact lt b o e z
    · exact h1 z
  have hU:Un (frs X.stack) fp H (upd H5 s.heap.objs.size (.lst ys)) s.heap s5.heap:=by
    have U:=I5.base
    refine ⟨fun b o e n1 hb hx=>U.keep b o (psh b o e) n1 hb (nx b o e hx),fun b o e n1 hb hx=>U.slot b o (psh b o e) n1 hb (nx b o e hx),fun b o e n1 hx=>?_,fun b o e hx=>U.there b o (psh b o e) (nx b o e hx),
      fun b xs e=>?_,fun b o u e=>?_,fun b ps e=>?_⟩
    · rw [upd_ne (lt b o e)]; exact U.free b o (psh b o e) n1 (nx b o e hx)
    · rw [upd_ne (ne_of_none e hH)]; exact U.tups b xs e
    · rw [upd_ne (ne_of_none e hH)]; exact U.frzs b o u e
    · rw [upd_ne (ne_of_none e hH)]; exact U.tbls b ps e
  have hok:HOk X.prog X.w (upd H5 s.heap.objs.size (.lst ys)) s5.heap:=fun b u q=>by
    by_cases hb:b = s.heap.objs.size
    · subst hb
      rw [upd_same] at q
      cases q
      exact ⟨hz,its,n,rv,hD⟩
    · rw [upd_ne hb] at q
      refine ObjOk.stay (I5.hok b u q) (fun c v _ q=>q) (fun c q=>?_) fun c xs q=>?_
      · rw [upd_ne (ne_of_none q hn)]; exact q
      · rw [upd_ne (ne_of_none q hn)]; exact q
  refine ⟨I.call' (ch:=fp) (show s5.os = s.os from I5.os) hU hok I5.bare fun b hb=>?_,I.fpOk (Nat.le_succ _) ?_⟩
  · obtain ⟨_,f1,_,f3,f4,f5⟩:=hf b hb
    exact ⟨f3,f1,f4,f5⟩
  · rw [upd_ne (Nat.ne_of_gt (Nat.lt_succ_self _))]
    exact I5.free
theorem comp_run {X:Cx} {sc:Scope} {N:List Str} {cp:List (Option Nat)} {tg iter elt:Expr} {ifs:List Expr} {pos:Pos} {g:TG} {tif:TT} {te:TE} {Sg:List Nat}
    (S:CompSc X.env.scope sc X.N N cp) (hc:X.calm = true) (hg:∀ z,PG (cxC X sc N z) tg g) (hset:Sets g Sg) (hloc:∀ k ∈ Sg,cp[k]? = some none)
    (hif:∀ z,PIf (cxC X sc N z) ifs tif) (he:∀ z,PE (cxC X sc N z) elt te)
    {pins:List (Addr × Obj)} {σ:St} {H:Hp} {s:Shared} {it:Addr} {fp:List Addr} {tn:Nat → Heap → Prop} {J:It} {cl:List (Str × Addr)} (I:Inv X pins σ H s) (T:Turn X.prog X.w X.K tg J fp it tn) (st:tn 0 s.heap) (hf:∀ b ∈ fp,FpOk X pins H b)
    (K:ClOk X.env sc cl) {W:Nat → Nat → List V → Hp → Prop} {F:List V → Hp → Prop} {m0:Nat} (w0:W 0 m0 [] H)
    (turn:∀ i m ys H,W i m ys H → (J.stop i H ∧ ys.length ≤ sizeLine ∧ F ys H) ∨ (J.go i H ∧ ys.length ≤ sizeLine ∧ ∃ (N1:V → Hp → Prop) (N0:Hp → Prop),(∀ y H',N1 y H' → ∃ m',m' < m ∧ W (i + 1) m' (ys ++ [y]) H') ∧ (∀ H',N0 H' → ∃ m',m' < m ∧ W (i + 1) m' ys H') ∧ ∀ x H',J.yld i H x H' → g x (captS cp σ) H' fun σ2 H2=>tif σ2 H2 fun b H3=>if b = true then te σ2 H3 N1 else N0 H3))
    {RR:Value → Addr → Result → Shared → Prop} {E:Value → Shared → Prop}
    (fin:∀ D C s5 ys H5,H5 D = none → F ys H5 → Inv X pins σ (upd H5 D (.lst ys)) s5 → (∃ m,s5.heap.Ns C m) → FpOk X pins (upd H5 D (.lst ys)) C → RR (.ref D) C (.ok .next) s5) :
    wpAny (model X.prog X.w) X.A (newList []) (fun acc s₃=>wpAny (model X.prog X.w) X.A (newFunctionEnv sc X.env.globals cl [] X.env.qual none .none (some X.env)) (fun cenv s₄ =>
      codeAny (model X.prog X.w) X.A (.compStart (.ListComp elt [⟨tg,iter,ifs,0⟩] sc pos) 0 (.ref it) acc { cenv with scope:=relabel sc X.env }) (RR acc cenv.locals) s₄) E s₃) E s:=by
  have hfo:∀ b ∈ fp,∃ o,s.heap.get? b = some o:=fun b hb=>by obtain ⟨o,e,_⟩:=T.obj 0 _ st b hb; exact ⟨o,e⟩
  refine wpAny_newObj_type (wpAny_newFunctionEnv S.nocell (by intro y hy; simp at hy) (fun h4 hns hsb=>?_) S.kind)
  have hns':h4.Ns (s.heap.objs.size + 1) (fun x=>([]:List (Str × Value)).reverse.lookup x):=by
    have z:=hns
    rw [show (s.heap.push { cls:=.type "list", dict:=none,data:=.seq ([]:List Value).toArray }).objs.size = s.heap.objs.size + 1 from Heap.size_push ..] at z
    exact z
  have hC:(s.heap.push (accObj [] 0)).objs.size = s.heap.objs.size + 1:=Heap.size_push ..
  have hsb':∀ b o,b ≠ s.heap.objs.size + 1 → (s.heap.push (accObj [] 0)).get? b = some o → h4.get? b = some o:=fun b o hb e =>
    hsb.extBut b o (by show b ≠ (s.heap.push (accObj [] 0)).objs.size; rw [hC]; exact hb) (Heap.get?_push_of_some _ e)
  have I4:=comp_start (tk:=s.toks + ([]:List (Str × Value)).length) S I hf hfo K hns' hsb'
  have loop:∀ it',it' = Value.ref it →
      codeAny (model X.prog X.w) X.A (.compLoop (.ListComp elt [⟨tg,iter,ifs,0⟩] sc pos) 0 it' (.ref s.heap.objs.size) (compEnvC sc cl (s.heap.objs.size + 1) X.env)) (RR (.ref s.heap.objs.size) (s.heap.objs.size + 1))
        { s with heap:=h4,toks:=s.toks + ([]:List (Str × Value)).length }:=by
    rintro _ rfl
    refine codeAny_compLoop_own (fun k s'=>∃ i ys its n H',Inv (cxC X sc N ⟨cl,s.heap.objs.size + 1,s.heap.objs.size,{ s with heap:=s.heap.push (accObj [] 0) },H,fp,pins⟩) [(s.heap.objs.size,accObj its n)] (captS cp σ) H' s' ∧
      Vals ys its ∧ tn i s'.heap ∧ (∀ b ∈ fp,H' b = none) ∧ W i k ys H') ?_ m0 ⟨0,[],[],0,H,I4,.nil,T.keep _ _ _ st fun b hb o e=>?_,fun b hb=>(hf b hb).1,w0⟩
    · rintro k s1 ⟨i,ys,its,n,H1,I1,rv,st1,fr1,w1⟩
      have fpY:∀ {H':Hp} {p:List (Addr × Obj)},(∀ b ∈ fp,H' b = none) → (∀ q ∈ p,q.1 = s.heap.objs.size) → ∀ b ∈ fp,FpOk (cxC X sc N ⟨cl,s.heap.objs.size + 1,s.heap.objs.size,{ s with heap:=s.heap.push (accObj [] 0) },H,fp,pins⟩) p H' b:=fun {H' p} hn hp b hb=>by
        obtain ⟨f0,f1,f2,f3,f4,f5⟩:=hf b hb
        obtain ⟨o,e⟩:=hfo b hb
        have hlt:=Heap.lt_size e
        refine ⟨hn b hb,Nat.ne_of_lt (Nat.lt_succ_of_lt hlt),fun z=>?_,.inl (List.mem_cons_of_mem _ hb),fun x c ec=>f4 x c (K.sub x c ec),fun q hq z=>?_⟩
        · rcases List.mem_cons.mp (I.stkSub b z) with z | z
          · exact f1 z
          · exact f2 z
        · rcases List.mem_append.mp hq with hq | hq
          · exact f5 q hq z
          · rw [hp q hq] at z
            rw [z] at hlt
            exact absurd hlt (Nat.lt_irrefl _)
      have pD:∀ {its':List Value} {n':Nat},∀ q ∈ [(s.heap.objs.size,accObj its' n')],q.1 = s.heap.objs.size:=fun {its' n'} q hq=>by
        have e:q = (s.heap.objs.size,accObj its' n'):=by simpa using hq
        rw [e]
      rcases turn i k ys H1 w1 with ⟨stop,hz,f⟩ | ⟨go,hz,N1,N0,hN1,hN0,step⟩
      · refine wpAny_mono (T.done (cxC X sc N ⟨cl,s.heap.objs.size + 1,s.heap.objs.size,{ s with heap:=s.heap.push (accObj [] 0) },H,fp,pins⟩) rfl rfl rfl hc i _ s1 _ H1 (fun _ _=>False) I1 (fpY fr1 pD) st1 stop) (fun r s2 ⟨hr,I2⟩=>?_) fun _ _ z=>z
        subst hr
        obtain ⟨e,nn,_⟩:=I2.pin (s.heap.objs.size,accObj its n) (List.mem_append_right _ (by simp))
        obtain ⟨IX,fC⟩:=comp_end I hf I2 e nn rv hz
        obtain ⟨mC,hC2,_⟩:=I2.loc
        exact fin _ _ s2 ys H1 nn f IX ⟨mC,hC2⟩ fC
      · refine wpAny_mono (T.item (cxC X sc N ⟨cl,s.heap.objs.size + 1,s.heap.objs.size,{ s with heap:=s.heap.push (accObj [] 0) },H,fp,pins⟩) rfl rfl rfl hc i _ s1 _ H1 (fun _ _=>False) I1 (fpY fr1 pD) st1 go) (fun r s2 ⟨u,hr,h2⟩=>?_) fun _ _ z=>z
        subst hr
        refine wpAny_mono h2 (fun _ s3 ⟨x,H3,I3,rx,y3,st3,fr3⟩=>?_) fun _ _ z=>z
        have I3':=I3.pinned (fpY fr3 pD) (T.obj _ _ st3)
        refine wpAny_mono (hg _ _ s3 _ H3 x u _ I3' rx (hset _ _ _ _ (step x H3 y3))) (fun _ s4 ⟨σ4,H4,I4',q4,len4,sm4⟩=>?_) fun _ _ z=>z
        refine wpAny_mono (hif _ _ s4 σ4 H4 _ I4' q4) (fun ok s5 ⟨H5,I5,q5⟩=>?_) fun _ _ z=>z
        have weak:∀ (j:Nat) v,(captS cp σ)[j]? = some (some v) → σ4[j]? = some (some v):=fun j v e=>by
          rw [sm4 j ?_]
          · exact e
          · intro hj
            obtain ⟨l,e1,_⟩:=captS_get e
            rw [hloc j hj] at e1
            cases e1
        cases ok with
        | false =>
          obtain ⟨m',hm,w5⟩:=hN0 _ q5
          show ∃ m,m < k ∧ _
          refine ⟨m',hm,i + 1,ys,its,n,H5,?_,rv,?_,fun b hb=>?_,w5⟩
          · exact (I5.unpinned).weak len4.symm weak
          · exact T.keep _ _ _ st3 fun b hb o e=>(I5.pin (b,o) (List.mem_append_right _ (List.mem_append_right _ (mem_pinsAt hb e)))).1
          · obtain ⟨o,e,d⟩:=T.obj _ _ st3 b hb
            exact (I5.pin (b,o) (List.mem_append_right _ (List.mem_append_right _ (mem_pinsAt hb e)))).2.1
        | true =>
          show wpAny _ _ (eval elt _) _ _ s5
          refine wpAny_mono (he _ _ s5 σ4 H5 _ I5 q5) (fun v s6 ⟨y,H6,I6,r6,q6⟩=>?_) fun _ _ z=>z
          obtain ⟨m',hm,w6⟩:=hN1 _ _ q6
          obtain ⟨eD,nD,_⟩:=I6.pin (s.heap.objs.size,accObj its n) (List.mem_append_right _ (List.mem_append_left _ (by simp)))
          refine wpAny_list_append_plain (items:=its.toArray) ⟨n,eD⟩ (fun h7 pl sb=>?_) (by rw [List.size_toArray,← rv.length]; exact hz)
          obtain ⟨n7,e7⟩:=pl
          have e7':h7.get? s.heap.objs.size = some (accObj (its ++ [v]) n7):=by
            rw [e7]
            show some _ = some _
            unfold accObj
            rw [show its.toArray.push v = (its ++ [v]).toArray by simp]
          have J0:Inv (cxC X sc N ⟨cl,s.heap.objs.size + 1,s.heap.objs.size,{ s with heap:=s.heap.push (accObj [] 0) },H,fp,pins⟩) [] σ4 H6 s6:=I6.pins_of fun p hp=>by cases hp
          have dY:s.heap.objs.size ≠ s.heap.objs.size + 1:=Nat.ne_of_lt (Nat.lt_succ_self _)
          have J1:Inv (cxC X sc N ⟨cl,s.heap.objs.size + 1,s.heap.objs.size,{ s with heap:=s.heap.push (accObj [] 0) },H,fp,pins⟩) [] σ4 H6 { s6 with heap:=h7 }:=by
            refine J0.turned (it:=s.heap.objs.size) (t':=s6.toks) (fun b o hb e=>(sb.2 b hb).trans e) nD dY (.inl List.mem_cons_self) (fun x c ec=>?_) (fun p hp=>?_)
            · obtain ⟨v',q⟩:=I.cell x c (K.sub x c ec)
              exact Nat.ne_of_lt q.lt
            · have hp':p ∈ X.pn ++ pins:=by simpa using hp
              exact Nat.ne_of_lt (Heap.lt_size (I.pin p hp').1)
          have J2:=J1.weak (σ':=captS cp σ) len4.symm weak
          refine ⟨m',hm,i + 1,ys ++ [y],its ++ [v],n7,H6,?_,rv.append (.cons r6 .nil),?_,fun b hb=>?_,w6⟩
          · refine J2.pins_of fun p hp=>?_
            have ep:p = (s.heap.objs.size,accObj (its ++ [v]) n7):=by simpa using hp
            subst ep
            obtain ⟨_,_,d1,d2,_⟩:=I6.pin (s.heap.objs.size,accObj its n) (List.mem_append_right _ (List.mem_append_left _ (by simp)))
            refine ⟨e7',nD,d1,d2,fun v' q=>?_⟩
            have q':Data.seq _ _ = Data.cell v':=q
            cases q'
          · refine T.keep _ _ _ st3 fun b hb o e=>?_
            have e6:=(I6.pin (b,o) (List.mem_append_right _ (List.mem_append_right _ (mem_pinsAt hb e)))).1
            obtain ⟨o',eo⟩:=hfo b hb
            exact (sb.2 b (Nat.ne_of_lt (Heap.lt_size eo))).trans e6
          · obtain ⟨o,e,d⟩:=T.obj _ _ st3 b hb
            exact (I6.pin (b,o) (List.mem_append_right _ (List.mem_append_right _ (mem_pinsAt hb e)))).2.1
    · obtain ⟨o',eo⟩:=hfo b hb
      exact hsb' b o (Nat.ne_of_lt (Nat.lt_succ_of_lt (Heap.lt_size eo))) (Heap.get?_push_of_some _ e)
  have st4:tn 0 h4:=T.keep _ _ _ st fun b hb o e=>hsb' b o (Nat.ne_of_lt (Nat.lt_succ_of_lt (Heap.lt_size e))) (Heap.get?_push_of_some _ e)
  have hCC:(s.heap.push { cls:=.type "list", dict:=none,data:=.seq ([]:List Value).toArray }).objs.size = s.heap.objs.size + 1:=Heap.size_push ..
  have goal:codeAny (model X.prog X.w) X.A (.compStart (.ListComp elt [⟨tg,iter,ifs,0⟩] sc pos) 0 (.ref it) (.ref s.heap.objs.size) (compEnvC sc cl (s.heap.objs.size + 1) X.env)) (RR (.ref s.heap.objs.size) (s.heap.objs.size + 1))
      { s with heap:=h4,toks:=s.toks + ([]:List (Str × Value)).length } :=
    codeAny_compStart_list (loop _ rfl) (T.self X.A 0 { s with heap:=h4,toks:=s.toks + ([]:List (Str × Value)).length } _ _ st4 (loop _ rfl))
  rw [← hCC] at goal
  exact goal
section
variable {X:Cx} {sc:Scope} {N:List Str} {cp:List (Option Nat)} {tg iter elt:Expr} {ifs:List Expr} {pos:Pos} {g:TG} {tif:TT} {te:TE} {wi:TI} {Sg:List Nat}
theorem Inv.clOk {pins:List (Addr × Obj)} {σ:St} {H:Hp} {s:Shared} (I:Inv X pins σ H s) (S:CompSc X.env.scope sc X.N N cp):∃ cl,ClOk X.env sc cl :=
  closure_ok fun y hy hf=>I.ok.has y.1 (S.free y hy hf)
theorem Inv.letGo {pins:List (Addr × Obj)} {σ:St} {H:Hp} {s:Shared} {C:Addr} {h':Heap} (I:Inv X pins σ H s) (f:FpOk X pins H C) (sb:Heap.SameBut C s.heap h'):Inv X pins σ H { s with heap:=h' }:=by
  obtain ⟨f0,f1,f2,f3,f4,f5⟩:=f
  exact I.turned (t':=s.toks) (fun b o hb e=>(sb.2 b hb).trans e) f0 f1 f3 f4 f5
end
def tComp0 (wi:TI) (cp:List (Option Nat)) (g:TG) (te:TE):TE:=fun σ H Q=>wi σ H fun J H1=>∃ W:Nat → Nat → List V → Hp → Prop,(∃ m,W 0 m [] H1) ∧ ∀ i m ys H,W i m ys H →
  (J.stop i H ∧ ys.length ≤ sizeLine ∧ ∀ p,H p = none → Q (.ref p) (upd H p (.lst ys))) ∨
  (J.go i H ∧ ys.length ≤ sizeLine ∧ ∃ N1:V → Hp → Prop,(∀ y H',N1 y H' → ∃ m',m' < m ∧ W (i + 1) m' (ys ++ [y]) H') ∧ ∀ x H',J.yld i H x H' → g x (captS cp σ) H' fun σ2 H2=>te σ2 H2 N1)
theorem comp0_turn {J:It} {cp:List (Option Nat)} {g:TG} {te:TE} {σ:St} {F:List V → Hp → Prop} {W:Nat → Nat → List V → Hp → Prop}
    (turn:∀ i m ys H,W i m ys H → (J.stop i H ∧ ys.length ≤ sizeLine ∧ F ys H) ∨ (J.go i H ∧ ys.length ≤ sizeLine ∧ ∃ N1:V → Hp → Prop,(∀ y H',N1 y H' → ∃ m',m' < m ∧ W (i + 1) m' (ys ++ [y]) H') ∧ ∀ x H',J.yld i H x H' → g x (captS cp σ) H' fun σ2 H2=>te σ2 H2 N1)) :
    ∀ i m ys H,W i m ys H → (J.stop i H ∧ ys.length ≤ sizeLine ∧ F ys H) ∨ (J.go i H ∧ ys.length ≤ sizeLine ∧ ∃ (N1:V → Hp → Prop) (N0:Hp → Prop),(∀ y H',N1 y H' → ∃ m',m' < m ∧ W (i + 1) m' (ys ++ [y]) H') ∧ (∀ H',N0 H' → ∃ m',m' < m ∧ W (i + 1) m' ys H') ∧
      ∀ x H',J.yld i H x H' → g x (captS cp σ) H' fun σ2 H2=>tYes σ2 H2 fun b H3=>if b = true then te σ2 H3 N1 else N0 H3):=fun i m ys H w=>by
  rcases turn i m ys H w with z | ⟨go,hz,N1,h1,h2⟩
  · exact .inl z
  · refine .inr ⟨go,hz,N1,fun _=>False,h1,fun _ z=>z.elim,fun x H' y=>?_⟩
    have e:(fun (σ2:St) (H2:Hp)=>tYes σ2 H2 fun b H3=>if b = true then te σ2 H3 N1 else False) = fun σ2 H2=>te σ2 H2 N1:=by
      funext σ2 H2
      show (if true = true then te σ2 H2 N1 else False) = te σ2 H2 N1
      rw [if_pos rfl]
    rw [e]
    exact h2 x H' y
section
variable {X:Cx} {sc:Scope} {N:List Str} {cp:List (Option Nat)} {tg iter elt:Expr} {pos:Pos} {g:TG} {te:TE} {wi:TI} {Sg:List Nat}
theorem pe_comp0 (S:CompSc X.env.scope sc X.N N cp) (hc:X.calm = true) (hi:PI X tg iter wi) (hg:∀ z,PG (cxC X sc N z) tg g) (hset:Sets g Sg) (hloc:∀ k ∈ Sg,cp[k]? = some none)
    (he:∀ z,PE (cxC X sc N z) elt te) (hs:∀ x,foldedSetIterable iter X.env x = pure x:=by intro _; rfl) :
    PE X (.ListComp elt [⟨tg,iter,[],0⟩] sc pos) (tComp0 wi cp g te):=by
  intro pins s σ H Q I h
  obtain ⟨cl,K⟩:=I.clOk S
  rw [eval_ListComp]
  refine wpAny_comprehension_free (use:=none) rfl hs K.clos S.kind S.names (thn (hi pins s σ H _ I h) fun xv s1 h1=>thn h1 fun itv s2 h2=>?_)
  obtain ⟨it,fp,tn,J,H2,e,I2,T,st2,f2,W,⟨m0,w0⟩,turn⟩:=h2
  subst e
  refine comp_run (RR:=fun acc C=>compPost (model X.prog X.w) X.A X.xe none (EP X pins σ Q) acc C) (F:=fun ys H5=>∀ p,H5 p = none → Q (.ref p) (upd H5 p (.lst ys))) S hc hg hset hloc (fun z=>pif_nil) he I2 T st2 f2 K w0 (comp0_turn turn) ?_
  intro D C s5 ys H5 hD f I5 ⟨m,hn⟩ fC
  exact ⟨m,hn,fun h' sb=>⟨.ref D,_,I5.letGo fC sb,rfl,f D hD⟩⟩
theorem ps_setComp0 {i:Nat} {x:Str} {px spos:Pos} (hN:X.N.Nodup) (hx:X.N[i]? = some x) (hl:X.env.scope.names.lookup x = some .local) (S:CompSc X.env.scope sc X.N N cp) (hc:X.calm = true) (hi:PI X tg iter wi) (hg:∀ z,PG (cxC X sc N z) tg g) (hset:Sets g Sg) (hloc:∀ k ∈ Sg,cp[k]? = some none)
    (he:∀ z,PE (cxC X sc N z) elt te)
    (hsw:swapsWith (.ListComp elt [⟨tg,iter,[],0⟩] sc pos) (some (.Name x px)) spos.line X.env = pure true:=by rfl) (hs:∀ x,foldedSetIterable iter X.env x = pure x:=by intro _; rfl) :
    PS X (.Assign [.Name x px] (.ListComp elt [⟨tg,iter,[],0⟩] sc pos) spos) (tAsg (tComp0 wi cp g te) (gName i)):=by
  intro pins s σ H D0 I h
  obtain ⟨cl,K⟩:=I.clOk S
  rw [exec_Assign_Name_used _ _ _ _ hsw]
  refine wpAny_bind (wpAny_standAt (wpAny_bind ?_))
  show wpAny _ _ (do let _ ← comprehension (.ListComp elt [⟨tg,iter,[],0⟩] sc pos) sc X.env _ (newList []) false (eval iter X.env) (some (assign (.Name x px) X.env))) _ _ s
  refine wpAny_bind (wpAny_mono (wpAny_comprehension_free (use:=some (assign (.Name x px) X.env)) (Q:=fun _ s'=>SP X pins D0 .next s') rfl hs K.clos S.kind S.names
    (thn (hi pins s σ H _ I h) fun xv s1 h1=>thn h1 fun itv s2 h2=>?_)) (fun _ s' hq=>wpAny_pure (wpAny_pure hq)) fun _ _ e=>e)
  obtain ⟨it,fp,tn,J,H2,e,I2,T,st2,f2,W,⟨m0,w0⟩,turn⟩:=h2
  subst e
  refine comp_run (RR:=fun acc C=>compPost (model X.prog X.w) X.A X.xe (some (assign (.Name x px) X.env)) (fun _ s'=>SP X pins D0 .next s') acc C) (F:=fun ys H5=>∀ p,H5 p = none → gName i (.ref p) σ (upd H5 p (.lst ys)) D0.nx) S hc hg hset hloc (fun z=>pif_nil) he I2 T st2 f2 K w0 (comp0_turn turn) ?_
  intro D C s5 ys H5 hD f I5 ⟨m,hn⟩ fC
  show wpAny _ _ (assign (.Name x px) X.env (.ref D)) _ _ _
  refine wpAny_assign_Name (store_ok2 I5 hN hx (.inl hl) (v:=.ref D) rfl (fun s6 I6 ⟨a,sa,ha⟩=>?_) (.inr hl))
  have hCa:C ≠ a:=by
    rcases ha with z | z
    · rw [z]; exact fC.2.1
    · exact fun q=>fC.2.2.2.2.1 x a z q.symm
  exact ⟨m,hn.sameBut sa hCa,fun h' sb=>⟨_,_,I6.letGo fC sb,f D hD⟩⟩
end
theorem comp_list {K:PySem.W.Frag} {a:Addr} {xs:List V} {B:V → Hp → (V → Hp → Prop) → Prop} {F:List V → Hp → Prop} {H:Hp} (Pv:Nat → List V → Hp → Prop) (h0:Pv 0 [] H) (hz:xs.length ≤ sizeLine)
    (hl:∀ i ys H,i ≤ xs.length → Pv i ys H → SqL K H a xs ∧ ys.length = i)
    (hs:∀ i x ys H,xs[i]? = some x → Pv i ys H → B x H fun y H4=>Pv (i + 1) (ys ++ [y]) H4)
    (hd:∀ ys H,Pv xs.length ys H → F ys H) :
    ∃ W:Nat → Nat → List V → Hp → Prop,(∃ m,W 0 m [] H) ∧ ∀ i m ys H,W i m ys H →
      ((Itl K a).stop i H ∧ ys.length ≤ sizeLine ∧ F ys H) ∨
      ((Itl K a).go i H ∧ ys.length ≤ sizeLine ∧ ∃ N1:V → Hp → Prop,(∀ y H',N1 y H' → ∃ m',m' < m ∧ W (i + 1) m' (ys ++ [y]) H') ∧ ∀ x H',(Itl K a).yld i H x H' → B x H' N1):=by
  refine ⟨fun i m ys H=>m = xs.length - i ∧ i ≤ xs.length ∧ Pv i ys H,⟨xs.length,by simp,Nat.zero_le _,h0⟩,?_⟩
  rintro i m ys H ⟨rfl,hi,p⟩
  obtain ⟨q,el⟩:=hl i ys H hi p
  have hzz:ys.length ≤ sizeLine:=by rw [el]; exact Nat.le_trans hi hz
  by_cases hlt:i < xs.length
  · refine .inr ⟨⟨xs,xs[i],q,by simp [hlt]⟩,hzz,fun y H4=>Pv (i + 1) (ys ++ [y]) H4,fun y H' q4=>⟨xs.length - (i + 1),by omega,rfl,hlt,q4⟩,fun x H' y=>?_⟩
    obtain ⟨e,y⟩:=y
    subst e
    exact hs i x ys _ (y xs q) p
  · have e:i = xs.length:=by omega
    subst e
    exact .inl ⟨⟨xs,q,Nat.le_refl _⟩,hzz,hd ys H p⟩
end L2
set_option Elab.async false
set_option linter.all false
set_option maxRecDepth 100000
namespace L2
open PySem PySem.Spec PyProof.Rows
section
variable {X:Cx}
theorem call_sum (hc:X.calm = true):CallR X (.builtin "sum") (fun xs H Q=>∃ (p:Addr) (ns:List Int),xs = [.ref p] ∧ SqL X.K H p (ns.map V.int) ∧ Q (.int ns.sum) H):=by
  intro pins s σ H xs us Q I r h
  obtain ⟨p,ns,e,hq,q⟩:=h
  subst e
  obtain ⟨u,rfl,ru⟩:=vals1 r
  cases ru
  obtain ⟨its,rv,pl,hz⟩:=I.list hq
  have hi:=intsAre_of rv
  have hl:s.heap.IsList p its.toArray:=pl.isList
  obtain ⟨zs,ez⟩:=hi.allInts.items
  rw [ez] at hl
  refine sum_intListG (I.ok.hd hc) hl fun h' tk t' hk=>?_
  refine ⟨.int ns.sum,H,I.kept hk,⟨t',?_⟩,q⟩
  have e2:numsOf its = ns:=hi.numsOf
  rw [preSum_eq,List.take_of_length_le (by simp),← nums_intItems,← ez,List.toList_toArray,e2]
theorem call_all (hc:X.calm = true):CallR X (.builtin "all") (fun xs H Q=>∃ (p:Addr) (bs:List Bool),xs = [.ref p] ∧ SqL X.K H p (bs.map V.bl) ∧ Q (.bl (bs.all id)) H):=by
  intro pins s σ H xs us Q I r h
  obtain ⟨p,bs,e,hq,q⟩:=h
  subst e
  obtain ⟨u,rfl,ru⟩:=vals1 r
  cases ru
  obtain ⟨its,rv,pl,hz⟩:=I.list hq
  have hl:s.heap.IsList p its.toArray:=pl.isList
  have hlt:p < s.heap.objs.size:=by obtain ⟨o,ho,_⟩:=hl; exact Heap.lt_size ho
  have hlen:bs.length = its.length:=by have:=rv.length; rwa [List.length_map] at this
  refine call_all_walk (wpAny_pyIter_list hl ?_)
  refine ⟨s.heap.objs.size,_,_,_,_,_,fun i=>bs.getD i true,rfl,Walks.list (A:=X.A.in1) (I.ok.hd hc) _ p (Nat.ne_of_lt hlt) its.toArray,⟨⟨_,Heap.get?_push_size _ rfl,rfl,rfl⟩,hl.push _⟩,?_,fun h' tk hk=>?_⟩
  · intro i v s' Q' E' hP hQ
    have hv:its[i]? = some v:=by simpa using hP
    have hib:i < its.length:=(List.getElem?_eq_some_iff.mp hv).1
    have hb:(bs.map V.bl)[i]? = some (V.bl (bs[i]'(by omega))):=by rw [List.getElem?_map,List.getElem?_eq_getElem (by omega)]; rfl
    obtain ⟨v',hv',rb⟩:=rv.get hb
    rw [hv] at hv'
    cases hv'
    cases rb
    refine wpAny_truthy_bool ?_
    have e:bs.getD i true = bs[i]'(by omega):=by rw [List.getD_eq_getElem?_getD,List.getElem?_eq_getElem (by omega)]; rfl
    have hQ':Q' (bs.getD i true) s':=hQ
    rw [e] at hQ'
    exact hQ'
  · have I2:Inv X pins σ H { s with heap:=h',toks:=tk }:=I.kept fun b o e=>hk b o (by
      intro z
      have z':b = s.heap.objs.size:=by simpa using z
      rw [z'] at e
      exact absurd (Heap.lt_size e) (Nat.lt_irrefl _)) (Heap.get?_push_of_some _ e)
    refine ⟨.bl (bs.all id),H,I2,?_,q⟩
    show Value.bool _ = Value.bool _
    congr 1
    have e1:its.toArray.size = bs.length:=by rw [List.size_toArray,hlen]
    rw [e1]
    apply Bool.eq_iff_iff.mpr
    simp only [List.all_eq_true,List.mem_range,id]
    constructor
    · intro hh x hx
      obtain ⟨n,hn,rfl⟩:=List.mem_iff_getElem.mp hx
      have:=hh n hn
      rw [List.getD_eq_getElem?_getD,List.getElem?_eq_getElem hn] at this
      exact this
    · intro hh n hn
      rw [List.getD_eq_getElem?_getD,List.getElem?_eq_getElem hn]
      exact hh _ (List.getElem_mem hn)
theorem Inv.turnedNew {pins:List (Addr × Obj)} {σ:St} {H:Hp} {s:Shared} {h':Heap} {ch:List Addr} {p:Addr} {o:HO} {t':Nat} (I:Inv X pins σ H s) (hch:∀ b ∈ ch,FpOk X pins H b)
    (k:∀ b ob,b ∉ ch → s.heap.get? b = some ob → h'.get? b = some ob) (hp:s.heap.objs.size ≤ p) (new:ObjOk X.prog X.w (upd H p o) h' p o):Inv X pins σ (upd H p o) { s with heap:=h',toks:=t' }:=by
  have hn:H p = none:=I.hok.fresh hp
  have nch:∀ b u,H b = some u → b ∉ ch:=fun b u e z=>by rw [(hch b z).1] at e; cases e
  have lt:∀ b ob,s.heap.get? b = some ob → b ≠ p:=fun b ob e=>Nat.ne_of_lt (Nat.lt_of_lt_of_le (Heap.lt_size e) hp)
  refine I.step (g':=s.gens) (d':=s.drawn) (ch:=ch) (fun b hb=>?_) (fun b ob _ _ hc e _=>k b ob hc e) (fun b ob _ _ hc e _=>⟨ob.slots,k b ob hc e⟩) (fun b ob _ e n=>by rw [upd_ne (lt b ob e)]; exact n)
    (fun b ob hc e=>⟨ob,k b ob hc e⟩) (fun b xs e=>by rw [upd_ne (ne_of_none e hn)]; exact e) (fun b u xs e=>by rw [upd_ne (ne_of_none e hn)]; exact e) (fun b ps e=>⟨#[],by rw [upd_ne (ne_of_none e hn),e]; simp⟩)
    (fun m hm=>?_) (fun b u e=>?_) I.bare
  · obtain ⟨_,f1,_,f3,f4,f5⟩:=hch b hb
    exact ⟨f3,f1,f4,f5⟩
  · obtain ⟨ob,es,ep,ho,r⟩:=hm
    exact ⟨ob,es,ep,k _ ob (fun z=>(hch _ z).2.1 rfl) ho,r⟩
  · by_cases hb:b = p
    · subst hb; rw [upd_same] at e; cases e; exact new
    · rw [upd_ne hb] at e
      refine (I.hok b u e).stay (fun c v hc q=>k c v ?_ q) (fun c q=>by rw [upd_ne (ne_of_none q hn)]; exact q) fun c xs q=>by rw [upd_ne (ne_of_none q hn)]; exact q
      rcases hc with z | z
      · rw [z]; exact nch b u e
      · exact nch c _ z
theorem Inv.turnedL {pins:List (Addr × Obj)} {σ:St} {H:Hp} {s:Shared} {h':Heap} {ch:List Addr} {t':Nat} (I:Inv X pins σ H s) (hch:∀ b ∈ ch,FpOk X pins H b)
    (k:∀ b ob,b ∉ ch → s.heap.get? b = some ob → h'.get? b = some ob):Inv X pins σ H { s with heap:=h',toks:=t' }:=by
  have nch:∀ b u,H b = some u → b ∉ ch:=fun b u e z=>by rw [(hch b z).1] at e; cases e
  refine I.step (g':=s.gens) (d':=s.drawn) (ch:=ch) (fun b hb=>?_) (fun b ob _ _ hc e _=>k b ob hc e) (fun b ob _ _ hc e _=>⟨ob.slots,k b ob hc e⟩) (fun b ob _ e n=>n)
    (fun b ob hc e=>⟨ob,k b ob hc e⟩) (fun b xs e=>e) (fun b u xs e=>e) (fun b ps e=>⟨#[],by rw [e]; simp⟩)
    (fun m hm=>?_) (fun b u e=>?_) I.bare
  · obtain ⟨_,f1,_,f3,f4,f5⟩:=hch b hb
    exact ⟨f3,f1,f4,f5⟩
  · obtain ⟨ob,es,ep,ho,r⟩:=hm
    exact ⟨ob,es,ep,k _ ob (fun z=>(hch _ z).2.1 rfl) ho,r⟩
  · refine (I.hok b u e).stay (fun c v hc q=>k c v ?_ q) (fun c q=>q) fun c xs q=>q
    rcases hc with z | z
    · rw [z]; exact nch b u e
    · exact nch c _ z
end
def Ite (K:PySem.W.Frag) (a:Addr):It :=
  ⟨fun i H=>∃ xs x,SqL K H a xs ∧ xs[i]? = some x,
   fun i H v H'=>∃ p x,v = .ref p ∧ H p = none ∧ H' = upd H p (.tup [.int (i:Nat),x]) ∧ ∀ xs,SqL K H a xs → xs[i]? = some x,
   fun i H=>∃ xs,SqL K H a xs ∧ xs.length ≤ i⟩
theorem turn_enum {P:Program} {w:World} {K:PySem.W.Frag} {elts:List Expr} {k0:Nat} {tp:Pos} {e it a:Addr} (hne:e ≠ it) :
    Turn P w K (.Tuple elts k0 tp) (Ite K a) [e,it] e (fun i h=>(∃ old,IsEnum h e it i old) ∧ h.IsListIter it a i) where
  mem:=by simp
  obj:=fun i h st c hc=>by
    obtain ⟨⟨old,he⟩,⟨o1,e1,_,d1⟩⟩:=st
    have hc':c = e ∨ c = it:=by simpa using hc
    rcases hc' with rfl | rfl
    · exact ⟨_,he,fun v q=>nomatch (show Data.fields _ = Data.cell v from q)⟩
    · exact ⟨o1,e1,fun v q=>by rw [d1] at q; cases q⟩
  keep:=fun i h h' st k=>by
    obtain ⟨⟨old,he⟩,h1⟩:=st
    exact ⟨⟨old,k e (by simp) _ he⟩,h1.at fun o q=>k it (by simp) o q⟩
  item:=by
    intro X hP hw hK hc i pins s σ H E I hf st hg
    subst hP hw hK
    obtain ⟨xs,x,hqa,hx⟩:=hg
    obtain ⟨⟨old,he⟩,h1⟩:=st
    obtain ⟨ita,rva,pa,_⟩:=I.list hqa
    obtain ⟨u,hu,ru⟩:=rva.get hx
    refine wpAny_pyNext_enum_item he h1 pa.isList (x:=u) (by simpa using hu) hne fun h' a1 a2 a3 a4 a5=>?_
    refine ⟨_,rfl,?_⟩
    refine wpAny_letOwnedTupleGo_enum a1 fun h'' he'' hs''=>?_
    have ne:s.heap.objs.size ≠ e:=Nat.ne_of_gt (Heap.lt_size he)
    have kk:∀ c o,c ∉ [e,it] → s.heap.get? c = some o → h''.get? c = some o:=fun c o hcn q=>by
      have hcn':¬ (c = e ∨ c = it):=by simpa using hcn
      exact hs''.extBut c o (fun z=>hcn' (.inl z)) (a5 c o (fun z=>hcn' (.inl z)) (fun z=>hcn' (.inr z)) q)
    have hn:H s.heap.objs.size = none:=I.hok.fresh (Nat.le_refl _)
    refine ⟨.ref s.heap.objs.size,upd H s.heap.objs.size (.tup [.int (i:Nat),x]),I.turnedNew (ch:=[e,it]) (t':=s.toks + 1) hf kk (Nat.le_refl _) ?_,rfl,
      ⟨_,x,rfl,hn,rfl,fun zs hq=>by rw [I.list_inj hq hqa]; exact hx⟩,⟨⟨u,?_⟩,a2.extBut hs''.extBut (Ne.symm hne)⟩,fun c hcm=>?_⟩
    · exact ⟨by show 2 ≤ sizeLine; decide,[.int i s.toks,u],.cons ⟨_,rfl⟩ (.cons ru .nil),⟨_,hs''.extBut _ _ ne a3,rfl,_,rfl⟩⟩
    · have q:((i:Int) + 1) = (((i + 1:Nat)):Int):=by omega
      rw [← q]
      exact he''
    · obtain ⟨o,q,_⟩:∃ o,s.heap.get? c = some o ∧ True:=by
        have hc':c = e ∨ c = it:=by simpa using hcm
        obtain ⟨o1,e1,_⟩:=h1
        rcases hc' with rfl | rfl
        · exact ⟨_,he,trivial⟩
        · exact ⟨_,e1,trivial⟩
      rw [upd_ne (Nat.ne_of_lt (Heap.lt_size q))]
      exact (hf c hcm).1
  done:=by
    intro X hP hw hK hc i pins s σ H E I hf st hg
    subst hP hw hK
    obtain ⟨xs,hqa,hend⟩:=hg
    obtain ⟨⟨old,he⟩,h1⟩:=st
    obtain ⟨ita,rva,pa,_⟩:=I.list hqa
    have la:=rva.length
    refine wpAny_pyNext_enum_end (I.ok.hd hc) he h1 pa.isList (by simp; omega) fun h' k=>⟨rfl,?_⟩
    refine I.turnedL (ch:=[e,it]) (t':=s.toks) hf fun c o hcn q=>?_
    have hcn':¬ (c = e ∨ c = it):=by simpa using hcn
    exact k c o (fun z=>hcn' (.inr z)) q
  self:=fun _ _ _ _ _ st h=>wpAny_pyIter_enum st.1.choose_spec h
section
variable {X:Cx} {elts:List Expr} {k0:Nat} {tp p pos:Pos}
end
end L2
set_option Elab.async false
set_option linter.all false
set_option maxRecDepth 100000
namespace L2
open PySem PySem.Spec PyProof.Rows
section
variable {X:Cx}
theorem op_eqI:OpR X (compareOp .Eq) (rI0 fun i j=>.bl (decide (i = j))):=opB0 fun i j _ _ _ _ _ q=>eq_int (by rw [Bool.beq_eq_decide_eq]; exact q)
def EqTy (X:Cx) {α:Type} [DecidableEq α] (rep:Hp → V → α → Prop):Prop :=
  ∀ (pins:List (Addr × Obj)) (s:Shared) (σ:St) (H:Hp) (x y:V) (u v:Value) (a b:α),Inv X pins σ H s → RelV x u → RelV y v → rep H x a → rep H y b → SeqAt.EqAt X.A.in1 s u v (decide (a = b))
def repP (K:PySem.W.Frag):Hp → V → Int × Int → Prop:=fun H x p=>∃ a,x = .ref a ∧ SqT K H a [.int p.1,.int p.2]
def RepL (K:PySem.W.Frag) {α:Type} (rep:Hp → V → α → Prop) (H:Hp) (a:Addr) (ds:List α):Prop:=∃ xs,SqL K H a xs ∧ Paired (rep H) xs ds
theorem Paired.get' {α β:Type} {F:α → β → Prop}:∀ {l₁:List α} {l₂:List β},Paired F l₁ l₂ → ∀ (i:Nat) (b:β),l₂[i]? = some b → ∃ a,l₁[i]? = some a ∧ F a b
  | _,_,.nil,_,_,h=>by simp at h
  | _,_,.cons r t,0,b,h=>by simp at h; subst h; exact ⟨_,rfl,r⟩
  | _,_,.cons r t,i + 1,b,h=>by simpa using Paired.get' t i b (by simpa using h)
theorem all_range_eq {α:Type} [DecidableEq α] (ds es:List α) (h:ds.length = es.length) (e:Nat → Bool) (he:∀ i a b,ds[i]? = some a → es[i]? = some b → e i = decide (a = b)):(List.range ds.length).all e = decide (ds = es):=by
  apply Bool.eq_iff_iff.mpr
  simp only [List.all_eq_true,List.mem_range,decide_eq_true_eq]
  constructor
  · intro hh
    apply List.ext_getElem?
    intro i
    by_cases hi:i < ds.length
    · have q:=hh i hi
      rw [he i _ _ (List.getElem?_eq_getElem hi) (List.getElem?_eq_getElem (by omega))] at q
      rw [List.getElem?_eq_getElem hi,List.getElem?_eq_getElem (by omega),of_decide_eq_true q]
    · rw [List.getElem?_eq_none (by omega),List.getElem?_eq_none (by omega)]
  · intro hh i hi
    subst hh
    rw [he i _ _ (List.getElem?_eq_getElem hi) (List.getElem?_eq_getElem hi)]
    exact decide_eq_true rfl
theorem lists_items {α:Type} [DecidableEq α] {rep:Hp → V → α → Prop} (E:EqTy X rep) {pins:List (Addr × Obj)} {s:Shared} {σ:St} {H:Hp} {xs ys:List V} {us vs:List Value} {ds es:List α}
    (I:Inv X pins σ H s) (ru:Vals xs us) (rv:Vals ys vs) (pd:Paired (rep H) xs ds) (pe:Paired (rep H) ys es) :
    ∃ e:Nat → Bool,(∀ i a b,ds[i]? = some a → es[i]? = some b → e i = decide (a = b)) ∧ ∀ j (h1:j < us.toArray.size) (h2:j < vs.toArray.size),SeqAt.EqAt X.A.in1 s us.toArray[j] vs.toArray[j] (e j):=by
  refine ⟨fun i=>match ds[i]?,es[i]? with | some a,some b=>decide (a = b) | _,_=>true,fun i a b h1 h2=>by simp only [h1,h2],fun j h1 h2=>?_⟩
  have lu:us.length = ds.length:=by rw [← ru.length,pd.length]
  have lv:vs.length = es.length:=by rw [← rv.length,pe.length]
  have j1:j < us.length:=by simpa using h1
  have j2:j < vs.length:=by simpa using h2
  have d1:ds[j]? = some (ds[j]'(by omega)):=List.getElem?_eq_getElem (by omega)
  have d2:es[j]? = some (es[j]'(by omega)):=List.getElem?_eq_getElem (by omega)
  obtain ⟨x,hx,rx⟩:=Paired.get' pd j _ d1
  obtain ⟨y,hy,ry⟩:=Paired.get' pe j _ d2
  obtain ⟨u,hu,rxu⟩:=ru.get hx
  obtain ⟨v,hv,ryv⟩:=rv.get hy
  have e1:us.toArray[j] = u:=by
    have:=List.getElem?_eq_getElem j1
    rw [hu] at this
    simpa using (Option.some.inj this).symm
  have e2:vs.toArray[j] = v:=by
    have:=List.getElem?_eq_getElem j2
    rw [hv] at this
    simpa using (Option.some.inj this).symm
  rw [e1,e2]
  simp only [d1,d2]
  exact E pins s σ H x y u v _ _ I rxu ryv rx ry
theorem op_eqL {α:Type} [DecidableEq α] {rep:Hp → V → α → Prop} (E:EqTy X rep) (hu:X.A.units < cLine):OpR X (compareOp .Eq) (fun x y H Q=>∃ a b ds es,x = .ref a ∧ y = .ref b ∧ RepL X.K rep H a ds ∧ RepL X.K rep H b es ∧ Q (.bl (decide (ds = es))) H):=by
  intro pins s σ H x y v u Q I rx ry h
  obtain ⟨a,b,ds,es,e1,e2,⟨xs,hxs,pd⟩,⟨ys,hys,pe⟩,q⟩:=h
  subst e1; subst e2
  cases rx; cases ry
  obtain ⟨us,ru,pu,_⟩:=I.list hxs
  obtain ⟨vs,rv,pv,_⟩:=I.list hys
  have lu:us.length = ds.length:=by rw [← ru.length,pd.length]
  have lv:vs.length = es.length:=by rw [← rv.length,pe.length]
  by_cases hl:ds.length = es.length
  · obtain ⟨e,he,hq⟩:=lists_items E I ru rv pd pe
    refine SeqAt.eq_listAt (e:=e) pu.isList pv.isList (by simp; omega) hu hq ⟨.bl (decide (ds = es)),H,I,?_,q⟩
    show Value.bool _ = Value.bool _
    rw [show us.toArray.size = ds.length by simp [lu],all_range_eq ds es hl e he]
  · refine SeqAt.eq_list_lengthsAt pu.isList pv.isList (by simp; omega) hu ⟨.bl (decide (ds = es)),H,I,?_,q⟩
    show Value.bool _ = Value.bool _
    rw [decide_eq_false fun z=>hl (by rw [z])]
theorem op_neL {α:Type} [DecidableEq α] {rep:Hp → V → α → Prop} (E:EqTy X rep) (hu:X.A.units < cLine):OpR X (compareOp .NotEq) (fun x y H Q=>∃ a b ds es,x = .ref a ∧ y = .ref b ∧ RepL X.K rep H a ds ∧ RepL X.K rep H b es ∧ Q (.bl (!decide (ds = es))) H):=by
  intro pins s σ H x y v u Q I rx ry h
  obtain ⟨a,b,ds,es,e1,e2,⟨xs,hxs,pd⟩,⟨ys,hys,pe⟩,q⟩:=h
  subst e1; subst e2
  cases rx; cases ry
  obtain ⟨us,ru,pu,_⟩:=I.list hxs
  obtain ⟨vs,rv,pv,_⟩:=I.list hys
  have lu:us.length = ds.length:=by rw [← ru.length,pd.length]
  have lv:vs.length = es.length:=by rw [← rv.length,pe.length]
  by_cases hl:ds.length = es.length
  · obtain ⟨e,he,hq⟩:=lists_items E I ru rv pd pe
    refine SeqAt.RcNeAt.lists (e:=e) pu.isList pv.isList (by simp; omega) hu hq X.prog X.w X.xe _ ⟨.bl (!decide (ds = es)),H,I,?_,q⟩
    show Value.bool _ = Value.bool _
    rw [show us.toArray.size = ds.length by simp [lu],all_range_eq ds es hl e he]
  · refine SeqAt.RcNeAt.lists_lengths pu.isList pv.isList (by simp; omega) hu X.prog X.w X.xe _ ⟨.bl (!decide (ds = es)),H,I,?_,q⟩
    show Value.bool _ = Value.bool _
    rw [decide_eq_false fun z=>hl (by rw [z])]
    rfl
theorem eqty_pair (hu:X.A.units + 1 < cLine):EqTy X (repP X.K):=by
  intro pins s σ H x y u v a b I rx ry ea eb
  obtain ⟨p,ex,hp⟩:=ea
  obtain ⟨q,ey,hq⟩:=eb
  subst ex; subst ey
  cases rx; cases ry
  by_cases hpq:p = q
  · subst hpq
    have e:a = b:=by
      have z:=I.tuple_inj hp hq
      obtain ⟨a1,a2⟩:=a
      obtain ⟨b1,b2⟩:=b
      injection z with z1 z2
      injection z1 with z1
      injection z2 with z2 _
      injection z2 with z2
      subst z1; subst z2; rfl
    subst e
    rw [decide_eq_true rfl]
    exact SeqAt.EqAt.same _
  · obtain ⟨us,ru,tu,_⟩:=I.tuple hp
    obtain ⟨vs,rv,tv,_⟩:=I.tuple hq
    obtain ⟨u1,u2,rfl,ru1,ru2⟩:=vals2 ru
    obtain ⟨v1,v2,rfl,rv1,rv2⟩:=vals2 rv
    have e1:=eqAt_V (A:=X.A.in1.in1) (s:=s) ru1 rv1 rfl rfl
    have e2:=eqAt_V (A:=X.A.in1.in1) (s:=s) ru2 rv2 rfl rfl
    have z:=SeqAt.RcAt.tuples (A:=X.A.in1) (s:=s) (e:=fun j=>if j = 0 then eqV (.int a.1) (.int b.1) else eqV (.int a.2) (.int b.2)) (show s.heap.IsTuple p #[u1,u2] from tu) (show s.heap.IsTuple q #[v1,v2] from tv) hu (fun j h1 h2=>by
      have h1':j < 2:=h1
      match j,h1' with
      | 0,_=>exact e1
      | 1,_=>exact e2)
    have w:=SeqAt.EqAt.of_refs hpq z
    have ek:((List.range (min (#[u1,u2]:Array Value).size (#[v1,v2]:Array Value).size)).all (fun j=>if j = 0 then eqV (.int a.1) (.int b.1) else eqV (.int a.2) (.int b.2)) && (#[u1,u2]:Array Value).size == (#[v1,v2]:Array Value).size) = decide (a = b):=by
      show ((if 0 = 0 then (a.1 == b.1) else (a.2 == b.2)) && ((if 1 = 0 then (a.1 == b.1) else (a.2 == b.2)) && true) && true) = _
      obtain ⟨a1,a2⟩:=a
      obtain ⟨b1,b2⟩:=b
      by_cases h1:a1 = b1
      · by_cases h2:a2 = b2
        · subst h1; subst h2; simp
        · rw [decide_eq_false (fun z=>h2 (Prod.mk.inj z).2)]; simp [h2]
      · rw [decide_eq_false (fun z=>h1 (Prod.mk.inj z).1)]; simp [h1]
    rw [ek] at w
    exact w
end
end L2
set_option Elab.async false
set_option linter.all false
set_option maxRecDepth 100000
namespace L2
open PySem PySem.Spec PyProof.Rows
section
variable {X:Cx} {a b c d:Expr} {ta tb tc td:TE} {pos:Pos}
end
end L2
set_option Elab.async false
set_option linter.all false
set_option maxRecDepth 100000
namespace L2
open PySem PySem.Spec PyProof.Rows
section
variable {X:Cx}
def clsV:V → Option Value
  | .ref a=>some (.ref a)
  | .ty n=>some (.type n)
  | _=>none
theorem call_isinst:CallR X (.builtin "isinstance") (fun xs H Q=>∃ x c t k b,xs = [x,c] ∧ TyOf X.K H x t ∧ clsV c = some k ∧ PySem.W.kitOne X.K t k = some b ∧ Q (.bl b) H):=by
  intro pins s σ H xs us Q I r h
  obtain ⟨x,c,t,k,b,e,ty,hk,e2,q⟩:=h
  subst e
  obtain ⟨u,v,rfl,ru,rv⟩:=vals2 r
  have ev:v = k:=by
    cases c with
    | ref a=>cases rv; cases hk; rfl
    | ty n=>cases rv; cases hk; rfl
    | _=>cases hk
  subst ev
  exact isinst_ok I ru ty e2 fun tk=>⟨.bl b,H,I.tok tk,rfl,q⟩
end
end L2
set_option Elab.async false
set_option linter.all false
set_option maxRecDepth 100000
namespace L2
open PySem
theorem Same.tup {K:PySem.W.Frag} {H H':Hp} {a:Addr} {xs:List V} (e:Same H H') (h:SqT K H a xs):SqT K H' a xs:=by
  rcases h with (h | ⟨o,h⟩) | h
  · exact .inl (.inl (e _ _ h))
  · exact .inl (.inr ⟨o,e _ _ h⟩)
  · exact .inr h
theorem same_new {H:Hp} {p:Addr} (h:H p = none) (o:HO):Same H (upd H p o):=fun b u q=>by rw [upd_ne (ne_of_none q h)]; exact q
def IntsAt (K:PySem.W.Frag) (H:Hp) (a:Addr) (ns:List Int):Prop:=SqL K H a (ns.map V.int)
theorem Same.ints {K:PySem.W.Frag} {H H':Hp} {a:Addr} {ns:List Int} (e:Same H H') (h:IntsAt K H a ns):IntsAt K H' a ns:=e.seq h
def PairsAt (K:PySem.W.Frag) (H:Hp) (a:Addr) (rs:List (Int × Int)):Prop:=∃ as:List Addr,SqL K H a (as.map V.ref) ∧ Paired (fun b (p:Int × Int)=>SqT K H b [.int p.1,.int p.2]) as rs
theorem Same.pairs {K:PySem.W.Frag} {H H':Hp} {a:Addr} {rs:List (Int × Int)} (e:Same H H') (h:PairsAt K H a rs):PairsAt K H' a rs:=by
  obtain ⟨as,h1,h2⟩:=h
  exact ⟨as,e.seq h1,Paired.mapP h2 fun b p q=>e.tup q⟩
theorem ints_get {ns:List Int} {i:Nat} {x:V} (h:(ns.map V.int)[i]? = some x):∃ n,ns[i]? = some n ∧ x = .int n:=by
  rw [List.getElem?_map] at h
  cases e:ns[i]? with
  | none=>rw [e] at h; cases h
  | some n=>rw [e] at h; exact ⟨n,rfl,(Option.some.inj h).symm⟩
theorem take_snoc {α:Type} {xs:List α} {i:Nat} {x:α} (h:xs[i]? = some x):xs.take (i + 1) = xs.take i ++ [x]:=by
  rw [List.take_add_one,h]; rfl
theorem small100 {n:Nat} (h:n ≤ 1000):n ≤ sizeLine:=Nat.le_of_lt (small1000 h)
theorem decT {p:Prop} [Decidable p] (h:p):decide p = true:=decide_eq_true h
theorem decF {p:Prop} [Decidable p] (h:¬ p):decide p = false:=decide_eq_false h
end L2
namespace L2
open PySem
theorem comp_enum {K:PySem.W.Frag} {a:Addr} {xs:List V} {B:V → Hp → (V → Hp → Prop) → Prop} {F:List V → Hp → Prop} {H:Hp} (Pv:Nat → List V → Hp → Prop) (h0:Pv 0 [] H) (hz:xs.length ≤ sizeLine)
    (hl:∀ i zs H,i ≤ xs.length → Pv i zs H → SqL K H a xs ∧ zs.length = i)
    (hs:∀ i x zs H p,xs[i]? = some x → Pv i zs H → H p = none → B (.ref p) (upd H p (.tup [.int (i:Nat),x])) fun z H4=>Pv (i + 1) (zs ++ [z]) H4)
    (hd:∀ zs H,Pv xs.length zs H → F zs H) :
    ∃ W:Nat → Nat → List V → Hp → Prop,(∃ m,W 0 m [] H) ∧ ∀ i m zs H,W i m zs H →
      ((Ite K a).stop i H ∧ zs.length ≤ sizeLine ∧ F zs H) ∨
      ((Ite K a).go i H ∧ zs.length ≤ sizeLine ∧ ∃ N1:V → Hp → Prop,(∀ y H',N1 y H' → ∃ m',m' < m ∧ W (i + 1) m' (zs ++ [y]) H') ∧ ∀ x H',(Ite K a).yld i H x H' → B x H' N1):=by
  refine ⟨fun i m zs H=>m = xs.length - i ∧ i ≤ xs.length ∧ Pv i zs H,⟨xs.length,by simp,Nat.zero_le _,h0⟩,?_⟩
  rintro i m zs H ⟨rfl,hi,p⟩
  obtain ⟨q1,el⟩:=hl i zs H hi p
  have hzz:zs.length ≤ sizeLine:=by rw [el]; exact Nat.le_trans hi hz
  by_cases hlt:i < xs.length
  · refine .inr ⟨⟨xs,xs[i],q1,by simp [hlt]⟩,hzz,fun y H4=>Pv (i + 1) (zs ++ [y]) H4,fun y H' q4=>⟨xs.length - (i + 1),by omega,rfl,hlt,q4⟩,fun x H' y=>?_⟩
    obtain ⟨r,u,rfl,hr,rfl,hu⟩:=y
    exact hs i u zs H r (hu xs q1) p hr
  · have e:i = xs.length:=by omega
    exact .inl ⟨⟨xs,q1,by omega⟩,hzz,hd zs H (e ▸ p)⟩
end L2
set_option Elab.async false
set_option linter.all false
set_option maxRecDepth 100000
namespace L2
open PySem PySem.Spec PyProof.Rows
def notStar:Expr → Bool
  | .Starred _ _=>false
  | _=>true
theorem starEach_ns {e:Expr} {es:List Expr} {env:Env} (h:notStar e = true):starEach (e :: es) env = (false,eval e env) :: starEach es env:=by
  cases e <;> first | rfl | cases h
theorem pa_consN {X:Cx} {e:Expr} {es:List Expr} {te:TE} {t:TA} (ha:PE X e te) (hr:PA X es t) (hn:notStar e = true:=by rfl):PA X (e :: es) (tCons te t):=pa_cons ha hr (starEach_ns hn)
def intsOf:List Expr → Option (List Int)
  | []=>some []
  | .Constant (.int i) _ _ :: es=>(intsOf es).map (i :: ·)
  | _=>none
def tInts (ns:List Int):TA:=fun _ H Q=>Q (ns.map V.int) H
theorem pa_ints {X:Cx}:∀ {es:List Expr} {ns:List Int},intsOf es = some ns → PA X es (tInts ns)
  | [],ns,h=>by
    cases h
    exact fun pos pins s σ H Q I hq=>pa_nil pos pins s σ H Q I hq
  | e :: es,ns,h=>by
    cases e with
    | Constant c k p =>
      cases c with
      | int i =>
        have h':(intsOf es).map (i :: ·) = some ns:=h
        cases e2:intsOf es with
        | none=>rw [e2] at h'; cases h'
        | some ms =>
          rw [e2] at h'
          cases h'
          have ih:=pa_ints (X:=X) e2
          exact fun pos pins s σ H Q I hq=>pa_cons (X:=X) (pe_int (i:=i)) ih (starEach_ns rfl) pos pins s σ H Q I hq
      | _=>cases h
    | _=>cases h
theorem pe_tupI {X:Cx} {es:List Expr} {k:Nat} {pos:Pos} {ns:List Int} (h:intsOf es = some ns):PE X (.Tuple es k pos) (tTup (tInts ns)):=pe_tup (pa_ints h)
end L2
set_option Elab.async false
set_option linter.all false
set_option maxRecDepth 100000
namespace L2
open PySem PySem.Spec PyProof.Rows
section
variable {prog:Program} {w:World} {A:Around} {E:Value → Shared → Prop} {s:Shared}
end
section
variable {X:Cx} {tg:Expr}
end
end L2
set_option Elab.async false
set_option linter.all false
set_option maxRecDepth 100000
namespace L2
open PySem PySem.Spec PyProof.Rows
end L2
set_option Elab.async false
set_option linter.all false
set_option maxRecDepth 100000
namespace L2
open PySem PySem.Spec PyProof.Rows
def SqX (K:PySem.W.Frag) (H:Hp) (a:Addr) (xs:List V):Prop :=
  Rd H a (.lst xs) ∨ ∃ (its:Array Value) (n:Nat),K.lookup a = some { cls:=.type "list", dict:=none,data:=.seq its n,slots:=#[] } ∧ its.size ≤ sizeLine ∧ Vals xs its.toList
theorem SqX.sq {K:PySem.W.Frag} {H:Hp} {a:Addr} {xs:List V} (h:SqX K H a xs):SqL K H a xs:=by
  rcases h with h | ⟨its,n,hk,hz,r⟩
  · exact .inl h
  · exact .inr ⟨_,its,n,hk,rfl,rfl,rfl,hz,r⟩
theorem SqX.same {K:PySem.W.Frag} {H H':Hp} {a:Addr} {xs:List V} (e:Same H H') (h:SqX K H a xs):SqX K H' a xs:=by
  rcases h with (h | ⟨o,h⟩) | h
  · exact .inl (.inl (e _ _ h))
  · exact .inl (.inr ⟨o,e _ _ h⟩)
  · exact .inr h
theorem SqX.of {K:PySem.W.Frag} {H:Hp} {a:Addr} {xs:List V} (h:H a = some (.lst xs)):SqX K H a xs:=.inl (.inl h)
theorem SqX.obj {X:Cx} {pins:List (Addr × Obj)} {σ:St} {H:Hp} {s:Shared} {a:Addr} {xs:List V} (h:SqX X.K H a xs) (I:Inv X pins σ H s):∃ (its:Array Value) (n:Nat),s.heap.get? a = some { cls:=.type "list", dict:=none,data:=.seq its n,slots:=#[] }:=by
  rcases h with h | ⟨its,n,hk,_,_⟩
  · obtain ⟨_,its,n,_,eo⟩:=h.ok I.hok
    exact ⟨_,_,eo⟩
  · exact ⟨its,n,I.kIn a _ hk⟩
section
variable {X:Cx} {elts:List Expr} {k0:Nat} {tp p pos:Pos}
def iEnumX (K:PySem.W.Frag) (ta:TA):TI:=fun σ H R=>ta σ H fun vs H1=>∃ a,vs = [.ref a] ∧ (∃ xs,SqX K H1 a xs) ∧ R (Ite K a) H1
theorem pi_enumX {a:Expr} {ta:TA} (hg:Gl X "enumerate") (hm:X.mg "enumerate" = none) (ha:PA X [a] ta) (hs:starEach [a] X.env = [(false,eval a X.env)]:=by rfl) :
    PI X (.Tuple elts k0 tp) (.Call (.Name "enumerate" p) [a] [] pos) (iEnumX X.K ta):=by
  intro pins s σ H R I h
  refine Call_ (ld_blt I hg hm boot_enumerate (PyProof.Rows.callWith_type1 (thn (ha pos pins s σ H _ I h) fun us s1 ⟨vs,H1,I1,r1,q1⟩=>?_) hs rfl))
  obtain ⟨l1,e,⟨xs,hqa⟩,q⟩:=q1
  subst e
  obtain ⟨u,rfl,ru⟩:=vals1 r1
  cases ru
  obtain ⟨its,n,eo⟩:=hqa.obj I1
  refine call_enumerate_1 eo fun h' a1 a2 a3 a4=>wpAny_pyIter_enum a1 ?_
  refine ⟨s1.heap.objs.size + 1,_,_,_,H1,rfl,I1.kept (t':=s1.toks) a4,turn_enum (Nat.ne_of_gt (Nat.lt_succ_self _)),⟨⟨_,a1⟩,a2⟩,fun c hc=>?_,q⟩
  have hc':c = s1.heap.objs.size + 1 ∨ c = s1.heap.objs.size:=by simpa using hc
  have hge:s1.heap.objs.size ≤ c:=by rcases hc' with z | z <;> (rw [z]; first | exact Nat.le_refl _ | exact Nat.le_add_right _ _)
  exact I1.fpOk hge (I1.hok.fresh hge)
end
theorem law_callX {P:Program} {w:World} {K:PySem.W.Frag} {mg mb:Str → Option Value} {CX:CXT} {k:Nat} {fa a:Addr} {fd:FuncData} {x:Str} {sp:Sp} {s₁:Shared} {vs:List Value} {ns:List Int}
    (KX:K.In s₁.heap) (hns:s₁.heap.Ns mainGlobals mg) (hb:s₁.heap.Ns builtinsNs mb) (hbb:∀ x:Str,x ≠ "__name__" → mb x = bootBuiltins x) (hlim:s₁.heap.NoLimit) (hg:s₁.gens = #[])
    (ha:s₁.heap.get? a = some { cls:=.type "list", data:=.seq vs.toArray }) (hi:IntsAre vs ns) (hl:ns.length ≤ sizeLine) (hr:Room k callerA)
    (F:∀ base:Heap,K.In base → base.Ns mainGlobals mg → FnOk P w K mg base CX k fa fd [x] sp) (hbind:∀ (s:Shared) (u:Value),BindsTo s fd ⟨[u],[]⟩ [(x,u)])
    (hsp:∀ H:Hp,Only H → SqX K H a (ns.map V.int) → sp [.ref a] H (fun v _=>v = .bl true) fun _ _ _=>False)
    (hCX:∀ H e s',CX [] H s₁ (fun _ _ _=>False) e s' → False) :
    codeAny (model P w) callerA (.call (.ref fa) ⟨[.ref a],[]⟩) (fun r s'=>r = .ok (.ret (.bool true)) ∧ OldK s₁.heap s'.heap ∧ s'.os = s₁.os ∧ AllBare s'.gens) s₁:=by
  have rv:=vals_ints hi
  have lenV:=hi.length
  have core:∀ H:Hp,Only H → SqX K H a (ns.map V.int) → HOk P w H s₁.heap → (∀ b,H b ≠ none → b = a) → (H a ≠ none → K.lookup a = none) →
      codeAny (model P w) callerA (.call (.ref fa) ⟨[.ref a],[]⟩) (fun r s'=>r = .ok (.ret (.bool true)) ∧ OldK s₁.heap s'.heap ∧ s'.os = s₁.os ∧ AllBare s'.gens) s₁:=by
    intro H hO hS hok hA hK
    have base_of:∀ {b:Addr} {o:Obj},s₁.heap.get? b = some o → H b = none → (hidT s₁.heap H).get? b = some o:=fun e n=>hidT_get e n
    have noA:∀ {b:Addr} {o:Obj} {es:Array DictEntry} {ep:Nat},s₁.heap.get? b = some o → o.data = .dict es ep → H b = none:=fun {b o es ep} e d=>by
      cases q:H b with
      | none=>rfl
      | some u =>
        have e':b = a:=hA b (by rw [q]; simp)
        subst e'
        rw [ha] at e; cases e
        have d':Data.seq vs.toArray _ = Data.dict es ep:=d
        cases d'
    have nsK:∀ {b:Addr} {m:Str → Option Value},s₁.heap.Ns b m → (hidT s₁.heap H).Ns b m:=fun {b m} ⟨o,es,ep,e,d,r⟩=>⟨o,es,ep,base_of e (noA e d),d,r⟩
    have hKb:K.In (hidT s₁.heap H):=fun b o e=>base_of (KX b o e) (by
      cases q:H b with
      | none=>rfl
      | some u =>
        have e':b = a:=hA b (by rw [q]; simp)
        subst e'
        rw [hK (by rw [q]; simp)] at e; cases e)
    have hM:Mod K mg (hidT s₁.heap H):=⟨hKb,nsK hns,⟨mb,nsK hb,hbb⟩,let ⟨mc,h1,h2⟩:=hlim; ⟨mc,nsK h1,h2⟩⟩
    have e0:Env0 P w K mg (hidT s₁.heap H) callerA [] s₁ H:=⟨rfl,hM,fun b o e=>of_hidT e,Nat.le_of_eq (hidT_size _ _),trivial,fun b hb=>absurd (show b ∈ ([]:List Addr) from hb) (by simp),hok,.of_eq hg⟩
    refine codeAny_mono ((F _ hKb (nsK hns)).run callerA [] s₁ H ⟨[.ref a],[]⟩ [.ref a] [.ref a] _ _ hr e0 (hbind s₁ (.ref a)) (.cons rfl .nil) (hsp H hO hS)) fun r s' h=>?_
    cases r with
    | error e=>exact (hCX H e s' h).elim
    | ok fl =>
      cases fl with
      | next=>exact False.elim h
      | brk=>exact False.elim h
      | cont=>exact False.elim h
      | ret u =>
        obtain ⟨v,H',os,bare,un,hok',r',q⟩:=h
        have q':v = .bl true:=q
        subst q'
        obtain rfl:u = Value.bool true:=r'
        refine ⟨rfl,OldK.of_keep fun b o e=>?_,os,bare⟩
        cases q:H b with
        | none=>exact un.keep b o e q (by intro z; exact absurd (show b ∈ ([]:List Addr) from z) (by simp)) (by simp)
        | some u =>
          rcases hO b with z | ⟨ob,xs,z⟩
          · rw [q] at z; cases z
          · have z2:=un.frzs b ob _ z
            obtain ⟨e1,_⟩:=hok b _ z
            obtain ⟨e2,_⟩:=hok' b _ z2
            rw [e] at e1; cases e1
            exact e2
  cases hk:K.lookup a with
  | some o =>
    have e:=KX a o hk
    rw [ha] at e
    cases e
    refine core (fun _=>none) (fun _=>.inl rfl) (.inr ⟨vs.toArray,_,hk,by rw [List.size_toArray,lenV]; exact hl,by simpa using rv⟩) (fun b u z=>by have z':(none:Option HO) = some u:=z; cases z') (fun b z=>absurd rfl z) fun z=>absurd rfl z
  | none =>
    refine core (fun b=>if b = a then some (.frz { cls:=.type "list", data:=.seq vs.toArray } (.lst (ns.map V.int))) else none) (fun b=>?_) (.inl (.inr ⟨{ cls:=.type "list", data:=.seq vs.toArray },if_pos rfl⟩)) (fun b u z=>?_) (fun b z=>?_) fun _=>hk
    · by_cases hb:b = a
      · exact .inr ⟨_,_,if_pos hb⟩
      · exact .inl (if_neg hb)
    · by_cases hb:b = a
      · have z':=(if_pos hb).symm.trans z
        cases z'
        subst hb
        exact ⟨ha,by rw [List.length_map]; exact hl,vs,_,rv,ha⟩
      · have z':=(if_neg hb).symm.trans z
        cases z'
    · by_cases hb:b = a
      · exact hb
      · exact absurd (if_neg hb) z
theorem walk_ofX {l:PySem.W.OpenLaw} {n k:Nat} {q:Program} {loose:List Str} {XP:(Str → Option Value) → Heap → Prop} {YP:World → Heap → Prop} {d:DefRec} {K:Params → PySem.W.Frag} {CX:World → CXT} {sp:World → Sp} {x:Str}
    (hn:l.most = some n) (hn2:n ≤ sizeLine) (hdf:d.params.defaults = []) (hr:Room k callerA)
    (hY:∀ (w:World) (h:Heap),YP w h → (K w.params).In h)
    (F:∀ (w:World) (mg:Str → Option Value) (fa:Addr) (h:Heap),(K w.params).In h → h.Ns mainGlobals mg → mg d.name = some (.ref fa) →
      ∃ fd:FuncData,(∀ (s:Shared) (u:Value),BindsTo s fd ⟨[u],[]⟩ [(x,u)]) ∧
        ∀ base:Heap,(K w.params).In base → base.Ns mainGlobals mg → FnOk l.prog w (K w.params) mg base (CX w) k fa fd [x] (sp w))
    (hsp:∀ (w:World) (H:Hp) (a:Addr) (ns:List Int),ns.length ≤ n → Only H → SqX (K w.params) H a (ns.map V.int) → sp w [.ref a] H (fun v _=>v = .bl true) fun _ _ _=>False)
    (hCX:∀ (w:World) (H:Hp) (s:Shared) (e:Value) (s':Shared),CX w [] H s (fun _ _ _=>False) e s' → False) :
    PySem.W.WalkO q loose XP YP l.row.toRowW d [] (fun f vs=>PySem.call f vs):=by
  refine Att.attach_call hn hdf fun w s₀ s₁ mg mb fa o pm cd doc a vs ns G Y ho hd hcd hmg hobj hints hlen hg=>?_
  have KX:=hY w _ Y
  obtain ⟨fd,hb,hF⟩:=F w mg fa _ KX G.T.g hmg
  exact law_callX KX G.T.g G.T.b G.T.builtins G.T.nolimit hg hobj hints (Nat.le_trans hlen hn2) hr hF hb (fun H hO hS=>hsp w H a ns hlen hO hS) fun H e s'=>hCX w H s₁ e s'
end L2
set_option linter.all false
namespace Wr
end Wr
set_option linter.all false
namespace Wr
structure EI (A B p o l lo:Int):Prop where
  p0:0 ≤ p
  l0:0 ≤ l
  lM:l ≤ 1000000
  oM : -1000000 ≤ o ∧ o ≤ 1000000
  loM : -1000000 ≤ lo ∧ lo ≤ 1000000
  g:Int.gcd p l = Int.gcd A B
  dp:B ∣ p - o * A
  dl:B ∣ l - lo * A
  sg:(0 ≤ o ∧ lo ≤ 0 ∧ o * l - lo * p = B) ∨ (o ≤ 0 ∧ 0 ≤ lo ∧ lo * p - o * l = B)
theorem EI.start {A B:Int} (hA:0 ≤ A) (hB:0 ≤ B) (hB2:B ≤ 1000000):EI A B A 1 B 0 :=
  ⟨hA,hB,hB2,⟨by decide,by decide⟩,⟨by decide,by decide⟩,rfl,by simp,by simp,.inl ⟨by decide,by decide,by simp⟩⟩
theorem le_mul_pos {a b:Int} (ha:0 ≤ a) (hb:1 ≤ b):a ≤ a * b:=by
  have:=Int.mul_le_mul_of_nonneg_left hb ha
  simpa using this
theorem EI.turn {A B p o l lo:Int} (hB2:B ≤ 1000000) (h:EI A B p o l lo) (hl:l ≠ 0):EI A B l lo (p - p / l * l) (o - p / l * lo):=by
  obtain ⟨p0,l0,lM,oM,loM,g,dp,dl,sg⟩:=h
  have hl1:1 ≤ l:=by omega
  have e:p - p / l * l = p % l:=by
    have:=Int.emod_add_mul_ediv p l
    rw [Int.mul_comm] at this
    omega
  have r0:=Int.emod_nonneg p hl
  have r1:=Int.emod_lt_of_pos p (show 0 < l by omega)
  have w0:0 ≤ p / l:=Int.ediv_nonneg p0 l0
  have hg:Int.gcd l (p % l) = Int.gcd A B:=by
    rw [← g]
    show Nat.gcd l.natAbs (p % l).natAbs = Nat.gcd p.natAbs l.natAbs
    rw [Int.natAbs_emod_of_nonneg p0,Nat.gcd_comm l.natAbs,← Nat.gcd_rec,Nat.gcd_comm]
  have hd:B ∣ (p - p / l * l) - (o - p / l * lo) * A:=by
    have:(p - p / l * l) - (o - p / l * lo) * A = (p - o * A) - p / l * (l - lo * A):=by
      rw [Int.sub_mul,Int.mul_sub,Int.mul_assoc]; omega
    rw [this]
    exact Int.dvd_sub dp (Int.dvd_mul_of_dvd_right dl)
  have hs:(0 ≤ lo ∧ (o - p / l * lo) ≤ 0 ∧ lo * (p - p / l * l) - (o - p / l * lo) * l = B) ∨ (lo ≤ 0 ∧ 0 ≤ (o - p / l * lo) ∧ (o - p / l * lo) * l - lo * (p - p / l * l) = B):=by
    rcases sg with ⟨s1,s2,s3⟩ | ⟨s1,s2,s3⟩
    · right
      refine ⟨s2,?_,?_⟩
      · have:p / l * lo ≤ 0:=Int.mul_nonpos_of_nonneg_of_nonpos w0 s2
        omega
      · rw [← s3,Int.sub_mul,Int.mul_sub]
        have:p / l * lo * l = lo * (p / l * l):=by ac_rfl
        omega
    · left
      refine ⟨s2,?_,?_⟩
      · have:0 ≤ p / l * lo:=Int.mul_nonneg w0 s2
        omega
      · rw [← s3,Int.sub_mul,Int.mul_sub]
        have:p / l * lo * l = lo * (p / l * l):=by ac_rfl
        omega
  rw [e] at hd hs ⊢
  generalize o - p / l * lo = n at *
  refine ⟨l0,r0,by omega,loM,?_,hg,dl,hd,hs⟩
  rcases hs with ⟨s1,s2,s3⟩ | ⟨s1,s2,s3⟩
  · have h1:0 ≤ lo * (p % l):=Int.mul_nonneg s1 r0
    have h2:=le_mul_pos (show 0 ≤ -n by omega) hl1
    rw [Int.neg_mul] at h2
    omega
  · have h1:lo * (p % l) ≤ 0:=Int.mul_nonpos_of_nonpos_of_nonneg s1 r0
    have h2:=le_mul_pos s2 hl1
    omega
structure Pwt (a b g x y:Int):Prop where
  g_:g = (Int.gcd a b:Int)
  s:a * x + b * y = g
  xM : -1000000 ≤ x ∧ x ≤ 1000000
  yM : -1000001000000 ≤ y ∧ y ≤ 1000001000000
theorem mul_small {x a M N:Int} (hx : -M ≤ x ∧ x ≤ M) (ha : -N ≤ a ∧ a ≤ N) (hM:0 ≤ M) (hN:0 ≤ N) : -(M * N) ≤ x * a ∧ x * a ≤ M * N:=by
  have h1:(x * a).natAbs ≤ M.natAbs * N.natAbs:=by
    rw [Int.natAbs_mul]
    exact Nat.mul_le_mul (by omega) (by omega)
  have h2:((M.natAbs * N.natAbs:Nat):Int) = M * N:=by
    rw [Int.natCast_mul]
    rw [show (M.natAbs:Int) = M by omega,show (N.natAbs:Int) = N by omega]
  omega
theorem EI.done {a b p o lo:Int} (ha : -1000000 ≤ a ∧ a ≤ 1000000) (hb : -1000000 ≤ b ∧ b ≤ 1000000) (h:EI (a.natAbs:Int) (b.natAbs:Int) p o 0 lo) :
    Pwt a b p (if a < 0 then -o else o) (if b = 0 then 0 else Int.fdiv (p - (if a < 0 then -o else o) * a) b) ∧ -1000001000000 ≤ p - (if a < 0 then -o else o) * a ∧ p - (if a < 0 then -o else o) * a ≤ 1000001000000:=by
  obtain ⟨p0,l0,lM,oM,loM,g,dp,dl,sg⟩:=h
  have hp:p = (Int.gcd a b:Int):=by
    have e:Int.gcd (a.natAbs:Int) (b.natAbs:Int) = Int.gcd a b:=by simp [Int.gcd]
    rw [e,Int.gcd_zero_right] at g
    omega
  have hx:(if a < 0 then -o else o) * a = o * (a.natAbs:Int):=by
    split
    · rw [show (a.natAbs:Int) = -a by omega,Int.neg_mul,Int.mul_neg]
    · rw [show (a.natAbs:Int) = a by omega]
  have hxM : -1000000 ≤ (if a < 0 then -o else o) ∧ (if a < 0 then -o else o) ≤ 1000000:=by split <;> omega
  have hb2:b ∣ p - (if a < 0 then -o else o) * a:=by
    rw [hx]
    exact Int.natAbs_dvd.mp dp
  have hpM:p ≤ 1000000:=by
    rw [hp]
    by_cases hz:a = 0
    · subst hz
      rw [Int.gcd_zero_left]; omega
    · have:(Int.gcd a b) ≤ a.natAbs:=Nat.le_of_dvd (by omega) (Nat.gcd_dvd_left _ _)
      omega
  have hm:=mul_small (M:=1000000) (N:=1000000) hxM ha (by decide) (by decide)
  rw [show (1000000:Int) * 1000000 = 1000000000000 by decide] at hm
  generalize (if a < 0 then -o else o) = x at *
  refine ⟨?_,by omega,by omega⟩
  by_cases hb0:b = 0
  · rw [if_pos hb0]
    subst hb0
    refine ⟨hp,?_,hxM,by omega⟩
    obtain ⟨c,hc⟩:=hb2
    rw [Int.zero_mul] at hc
    rw [Int.mul_comm a x]
    omega
  · rw [if_neg hb0]
    obtain ⟨c,hc⟩:=hb2
    have ec:Int.fdiv (p - x * a) b = c:=by rw [hc]; exact Int.mul_fdiv_cancel_left c hb0
    rw [ec]
    refine ⟨hp,?_,hxM,?_⟩
    · rw [Int.mul_comm a x]; omega
    · have h1:(b * c).natAbs = b.natAbs * c.natAbs:=Int.natAbs_mul b c
      have h2:c.natAbs ≤ b.natAbs * c.natAbs:=Nat.le_mul_of_pos_left _ (by omega)
      omega
end Wr
set_option Elab.async false
set_option linter.all false
set_option maxRecDepth 100000
namespace L2
open PySem
def TrdAt (h:Heap) (ea:Addr) (cls:Value) (T:Addr) (fl:Value):Prop :=
  ∃ oe vs oT ts,h.get? ea = some oe ∧ oe.cls = cls ∧ oe.dict = none ∧ oe.data = .fields vs ∧ vs[1]? = some (.ref T) ∧ vs[2]? = some .none ∧ T ≠ ea ∧ h.get? T = some oT ∧ oT.data = .fields ts ∧ ts[3]? = some fl
structure KeptX (fs:List Addr) (ea T:Addr) (h h':Heap):Prop where
  keep:∀ b o,h.get? b = some o → b ∉ fs → b ≠ ea → b ≠ T → h'.get? b = some o
  slot:∀ b o,h.get? b = some o → b ∈ fs → ∃ sl,h'.get? b = some { o with slots:=sl }
abbrev frsL (l:List Env):List Addr:=l.filterMap (·.frame)
section
variable {M:Model} {A:Around} {E:Value → Shared → Prop} {s:Shared} {base:Heap} {env:Env} {outer:List Env} {L e T:Addr}
theorem fr_notfields {h:Heap} {l:List Env} (hl:h.FunFrames base l) {b:Addr} {o:Obj} {vs:Array Value} (ho:h.get? b = some o) (hd:o.data = .fields vs):b ∉ frsL l:=fun hm=>by
  obtain ⟨_,o',ho',hnf⟩:=hl.mem hm
  rw [ho] at ho'; cases ho'; exact hnf vs hd
theorem fly_entry {oe:Obj} {vs:Array Value} {head:Value} {hadNext:Bool} {Q:Unit → Shared → Prop}
    (hfr:A.frames = some (env :: outer)) (hl:s.heap.FunFrames base (env :: outer)) (hf:env.frame = some L)
    (he:s.heap.get? e = some oe) (hd:oe.data = .fields vs) (hsz:1 < vs.size) (h2c:vs[2]? = some .none) (hdi:oe.dict = none)
    (h:∀ h' T',s.heap.get? T' = none → TrdAt h' e oe.cls T' (rawInt L) → KeptX (frsL (env :: outer)) e e s.heap h' → Q () { s with heap:=h' }) :
    wpAny M A (do let a ← frameOf env; let pl ← entryPlaceOf L hadNext; let b ← EntryCells.newEntry head a .none (rawInt L) .none pl; setField (.ref e) 1 b) Q E s:=by
  have hene:=fr_notfields hl he hd
  refine wpAny_bind (wpAny_frameOf_fun hfr hl hf fun h₁ hs₁=>?_)
  refine wpAny_bind (wpAny_entryPlaceOf fun pl hpl=>?_)
  unfold EntryCells.newEntry newFields
  refine wpAny_bind (wpAny_newObj_type ?_ (hpl.sizeOk5 _ _ _ _ _))
  generalize hN:({ cls:=.type "traceback", dict:=none,data:=.fields ([head,.ref L,.none,rawInt L,.none] ++ (if pl.isEmpty then List.replicate 6 Value.none else pl)).toArray }:Obj) = oN
  have he₁:h₁.get? e = some oe:=(hs₁.2.1 e hene).trans he
  have he₂:=Heap.get?_push_of_some (h:=h₁) oN he₁
  refine wpAny_setField he₂ hd hsz ?_
  have hTe:h₁.objs.size ≠ e:=Nat.ne_of_gt (Heap.lt_size he₁)
  have hd₃:=Obj.data_mapFields hd (·.setIfInBounds 1 (Value.ref h₁.objs.size))
  have hnew:s.heap.get? h₁.objs.size = none:=by
    cases q:s.heap.get? h₁.objs.size with
    | none=>rfl
    | some o =>
      obtain ⟨sl,z⟩:=hs₁.2.2 _ o q
      exact absurd (Heap.lt_size z) (Nat.lt_irrefl _)
  have hoN:oN.isFreed = false:=by rw [← hN]; rfl
  refine h _ h₁.objs.size hnew ⟨_,_,_,_,Heap.get?_update_self _ he₂ (Obj.isFreed_of_fields hd₃),Obj.cls_mapFields _ _,?_,hd₃,?_,?_,hTe,(Heap.get?_update_other _ _ (Ne.symm hTe)).trans (Heap.get?_push_size h₁ hoN),(by rw [← hN]),?_⟩ ⟨fun b o hb hnf hbe _=>?_,fun b o hb hm=>?_⟩
  · obtain ⟨c,d,dt,sl⟩:=oe
    have hdt:dt = .fields vs:=hd
    subst hdt
    exact hdi
  · simp [hsz]
  · rw [Array.getElem?_setIfInBounds_ne (by decide)]
    exact h2c
  · rcases hpl with rfl | ⟨_,_,_,_,_,_,_,rfl⟩ <;> simp
  · rw [Heap.get?_update_other _ _ (Ne.symm hbe)]
    exact Heap.get?_push_of_some _ ((hs₁.2.1 b hnf).trans hb)
  · obtain ⟨sl,z⟩:=hs₁.2.2 b o hb
    refine ⟨sl,?_⟩
    rw [Heap.get?_update_other _ _ (fun (q:e = b)=>hene (by rw [q]; exact hm))]
    exact Heap.get?_push_of_some _ z
theorem fly_still {cls fl:Value} {Q:Unit → Shared → Prop} (ht:TrdAt s.heap e cls T fl) (hl:s.heap.FunFrames base outer)
    (h:∀ h',TrdAt h' e cls T .none → KeptX (frsL outer) e T s.heap h' → Q () { s with heap:=h' }):wpAny M A (setFlight (.ref e) none) Q E s:=by
  obtain ⟨oe,vs,oT,ts,he,hc,hdi,hd,h1,h2c,hTe,hT,hdT,h3⟩:=ht
  have hsz3:3 < ts.size:=(Array.getElem?_eq_some_iff.mp h3).1
  have hnT:=fr_notfields hl hT hdT
  unfold setFlight
  refine wpAny_bind (wpAny_field he hd h1 ?_)
  rw [if_pos (show (Value.ref T != Value.none) = true from by simp)]
  refine wpAny_setField hT hdT hsz3 (h _ ⟨oe,vs,_,_,(Heap.get?_update_other _ _ hTe).trans he,hc,hdi,hd,h1,h2c,hTe,Heap.get?_update_self _ hT (Obj.isFreed_of_fields (Obj.data_mapFields hdT _)),Obj.data_mapFields hdT _,by simp [hsz3]⟩ ⟨fun b o hb _ _ hbT=>(Heap.get?_update_other _ _ (Ne.symm hbT)).trans hb,fun b o hb hm=>⟨o.slots,(Heap.get?_update_other _ _ fun (q:T = b)=>hnT (by rw [q]; exact hm)).trans hb⟩⟩)
theorem fly_note {cls:Value} {Q:Unit → Shared → Prop} (hfr:A.frames = some (env :: outer)) (hl:s.heap.FunFrames base (env :: outer)) (hf:env.frame = some L) (ht:TrdAt s.heap e cls T .none)
    (h:∀ h' T',s.heap.get? T' = none → TrdAt h' e cls T' (rawInt L) → KeptX (frsL (env :: outer)) e T s.heap h' → Q () { s with heap:=h' }):wpAny M A (noteFrame (.ref e) env) Q E s:=by
  obtain ⟨oe,vs,oT,ts,he,hc,hdi,hd,h1,h2c,hTe,hT,hdT,h3⟩:=ht
  subst hc
  unfold noteFrame
  simp only [hf]
  refine wpAny_bind (wpAny_field he hd h1 ?_)
  rw [if_pos (show (Value.ref T != Value.none) = true from by simp)]
  refine wpAny_bind (wpAny_field hT hdT h3 ?_)
  rw [if_neg (show ¬ ((Value.none == rawInt L) = true) from by simp [rawInt])]
  refine wpAny_bind (wpAny_setField hT hdT (Array.getElem?_eq_some_iff.mp h3).1 ?_)
  have hnT:=fr_notfields hl hT hdT
  have other:∀ b,b ≠ T → (s.heap.update T (Obj.mapFields (·.setIfInBounds 3 Value.none))).get? b = s.heap.get? b:=fun b hb=>Heap.get?_update_other _ _ (Ne.symm hb)
  refine fly_entry hfr (hl.of_keeps fun b o hb hnf=>⟨o,(other b fun q=>by rw [q,hT] at hb; cases hb; exact hnf ts hdT).trans hb,rfl⟩) hf ((other e (Ne.symm hTe)).trans he) hd (Array.getElem?_eq_some_iff.mp h1).1 h2c hdi fun h' T' hn ht' hk=>?_
  refine h h' T' ?_ ht' ⟨fun b o hb hnf hbe hbT=>hk.keep b o ((other b hbT).trans hb) hnf hbe hbe,fun b o hb hm=>hk.slot b o ((other b fun q=>hnT (q ▸ hm)).trans hb) hm⟩
  by_cases q:T' = T
  · rw [q,Heap.get?_update_self _ hT (Obj.isFreed_of_fields (Obj.data_mapFields hdT _))] at hn; cases hn
  · exact (other T' q).symm.trans hn
theorem fly_first {oe:Obj} {vs:Array Value} {Q:Unit → Shared → Prop} (hfr:A.frames = some (env :: outer)) (hl:s.heap.FunFrames base (env :: outer)) (hf:env.frame = some L) (he:s.heap.get? e = some oe) (hd:oe.data = .fields vs) (h1:vs[1]? = some .none) (h2c:vs[2]? = some .none) (hdi:oe.dict = none)
    (h:∀ h' T',s.heap.get? T' = none → TrdAt h' e oe.cls T' (rawInt L) → KeptX (frsL (env :: outer)) e e s.heap h' → Q () { s with heap:=h' }):wpAny M A (noteFrame (.ref e) env) Q E s:=by
  unfold noteFrame
  simp only [hf]
  refine wpAny_bind (wpAny_field he hd h1 ?_)
  rw [if_neg (by decide)]
  exact fly_entry hfr hl hf he hd (Array.getElem?_eq_some_iff.mp h1).1 h2c hdi h
theorem KeptX.frames {h h':Heap} {l:List Env} {vs ts:Array Value} {oe oT:Obj} (k:KeptX (frsL l) e T h h') (hl:h.FunFrames base l) (he:h.get? e = some oe) (hd:oe.data = .fields vs) (hT:h.get? T = some oT) (hdT:oT.data = .fields ts):h'.FunFrames base l :=
  hl.of_keeps fun b o hb hnf=>by
    by_cases hm:b ∈ frsL l
    · obtain ⟨sl,z⟩:=k.slot b o hb hm
      exact ⟨_,z,rfl⟩
    · exact ⟨o,k.keep b o hb hm (fun q=>by rw [q,he] at hb; cases hb; exact hnf vs hd) fun q=>by rw [q,hT] at hb; cases hb; exact hnf ts hdT,rfl⟩
end
end L2
set_option Elab.async false
set_option linter.all false
set_option maxRecDepth 100000
namespace L2
open PySem PySem.Spec PyProof.Rows
section
variable {X:Cx} {pins:List (Addr × Obj)} {σ:List (Option V)} {H H':Hp} {s:Shared} {h':Heap}
theorem Inv.stepW {g':Array GenState} {t':Nat} {d':Drawn} {ch:List Addr} (I:Inv X pins σ H s)
    (hch:∀ b ∈ ch,(b ∈ X.ex ∨ X.s₀.heap.get? b = none) ∧ b ≠ X.env.locals ∧ (∀ x c,X.env.cells.lookup x = some c → c ≠ b) ∧ ∀ p ∈ X.pn ++ pins,p.1 ≠ b)
    (keep:∀ b o,b ≠ X.env.locals → b ∉ X.fs → b ∉ ch → s.heap.get? b = some o → H b = none → h'.get? b = some o)
    (slot:∀ b o,b ≠ X.env.locals → b ∈ X.fs → b ∉ ch → s.heap.get? b = some o → H b = none → ∃ sl,h'.get? b = some { o with slots:=sl }) (free:∀ b o,b ∉ ch → s.heap.get? b = some o → H b = none → H' b = none)
    (there:∀ b o,b ∉ ch → s.heap.get? b = some o → ∃ o',h'.get? b = some o')
    (tups:∀ b xs,H b = some (.tup xs) → H' b = some (.tup xs)) (frzs:∀ b o u,H b = some (.frz o u) → H' b = some (.frz o u)) (tbls:∀ b ps,H b = some (.tbl ps) → ∃ more,H' b = some (.tbl (ps ++ more)))
    (ns:∀ m,s.heap.Ns X.env.locals m → h'.Ns X.env.locals m) (hok:HOk X.prog X.w H' h') (hg:AllBare g') :
    Inv X pins σ H' { s with heap:=h',gens:=g',drawn:=d',toks:=t' }:=by
  have neL:∀ b o,X.s₀.heap.get? b = some o → b ≠ X.env.locals:=fun b o e=>Nat.ne_of_lt (Nat.lt_of_lt_of_le (Heap.lt_size e) I.ok.above)
  have neC:∀ b o,X.s₀.heap.get? b = some o → b ∉ X.ex → b ∉ ch:=fun b o e hx hb=>by
    rcases (hch b hb).1 with z | z
    · exact hx z
    · rw [z] at e; cases e
  have cellK:∀ x c,X.env.cells.lookup x = some c → ∀ v,s.heap.IsCell c v → h'.IsCell c v:=fun x c e v ⟨o,ho,hd⟩=>by
    have nch:c ∉ ch:=fun z=>(hch c z).2.2.1 x c e rfl
    by_cases hc:c ∈ X.fs
    · obtain ⟨sl,q⟩:=slot c o (I.cne x c e) hc nch ho (I.freeC x c e)
      exact ⟨_,q,hd⟩
    · exact ⟨o,keep c o (I.cne x c e) hc nch ho (I.freeC x c e),hd⟩
  refine ⟨I.ok,I.os,hg,⟨fun b o e n hb hx=>?_,fun b o e n hb hx=>?_,fun b o e n hx=>?_,fun b o e hx=>?_,fun b xs e=>tups b xs (I.base.tups b xs e),fun b o xs e=>frzs b o xs (I.base.frzs b o xs e),fun b ps e=>?_⟩,?_,fun x c e=>?_,?_,fun x c e=>?_,fun p hp=>?_,hok,I.len⟩
  · exact keep b o (neL b o e) hb (neC b o e hx) (I.base.keep b o e n hb hx) (I.base.free b o e n hx)
  · obtain ⟨sl,e1⟩:=I.base.slot b o e n hb hx
    obtain ⟨sl',e2⟩:=slot b _ (neL b o e) hb (neC b o e hx) e1 (I.base.free b o e n hx)
    exact ⟨sl',e2⟩
  · obtain ⟨o',e1⟩:=I.base.there b o e hx
    exact free b o' (neC b o e hx) e1 (I.base.free b o e n hx)
  · obtain ⟨o',e1⟩:=I.base.there b o e hx
    exact there b o' (neC b o e hx) e1
  · obtain ⟨m1,e1⟩:=I.base.tbls b ps e
    obtain ⟨m2,e2⟩:=tbls b _ e1
    exact ⟨m1 ++ m2,by rw [e2,Array.append_assoc]⟩
  · obtain ⟨m,hn,hl⟩:=I.loc
    refine ⟨m,ns m hn,fun i x v e1 e2 e3=>?_⟩
    obtain ⟨u,r,l⟩:=hl i x v e1 e2 e3
    refine ⟨u,r,?_⟩
    rcases l with l | ⟨k,c,e,z⟩
    · exact .inl l
    · exact .inr ⟨k,c,e,cellK x c e _ z⟩
  · obtain ⟨v,z⟩:=I.cell x c e
    exact ⟨v,cellK x c e v z⟩
  · obtain ⟨m,⟨o,_,_,ho,_⟩,_⟩:=I.loc
    exact free _ o (fun z=>(hch _ z).2.1 rfl) ho I.free
  · obtain ⟨v,o,ho,hd⟩:=I.cell x c e
    exact free c o (fun z=>(hch c z).2.2.1 x c e rfl) ho (I.freeC x c e)
  · obtain ⟨e,n,ne,nf,d⟩:=I.pin p hp
    have nch:p.1 ∉ ch:=fun z=>(hch p.1 z).2.2.2 p hp rfl
    exact ⟨keep p.1 p.2 ne nf nch e n,free p.1 p.2 nch e n,ne,nf,d⟩
theorem Inv.callW {g':Array GenState} {t':Nat} {d':Drawn} {ch:List Addr} (I:Inv X pins σ H s) (u:Un (frs X.stack) ch H H' s.heap h') (hok:HOk X.prog X.w H' h') (hg:AllBare g')
    (hch:∀ b ∈ ch,(b ∈ X.ex ∨ X.s₀.heap.get? b = none) ∧ b ≠ X.env.locals ∧ (∀ x c,X.env.cells.lookup x = some c → c ≠ b) ∧ ∀ p ∈ X.pn ++ pins,p.1 ≠ b) :
    Inv X pins σ H' { s with heap:=h',gens:=g',drawn:=d',toks:=t' }:=by
  obtain ⟨m,⟨o,es,ep,ho,r⟩,_⟩:=id I.loc
  obtain ⟨sl,hL⟩:=u.any ho I.free fun z=>(hch _ z).2.1 rfl
  exact I.stepW (ch:=ch) hch (fun b o hL hb hc e n=>u.keep b o e n (fun z=>(List.mem_cons.mp (I.stkSub b z)).elim hL hb) hc) (fun b o _ _ hc e n=>u.any e n hc) (fun b o hc e n=>u.free b o e n hc) (fun b o hc e=>u.there b o e hc) u.tups u.frzs u.tbls (fun m' hm=>by
    obtain ⟨o',es',ep',ho',r'⟩:=hm
    rw [ho] at ho'; cases ho'
    exact ⟨_,es',ep',hL,r'⟩) hok hg
end
theorem ObjOk.there {P:Program} {w:World} {H:Hp} {h:Heap} {a:Addr} {o:HO} (x:ObjOk P w H h a o):∃ ob,h.get? a = some ob:=by
  cases o with
  | lst xs=>obtain ⟨_,_,_,_,e⟩:=x; exact ⟨_,e⟩
  | tup xs=>obtain ⟨_,_,_,⟨o,e,_⟩⟩:=x; exact ⟨o,e⟩
  | dK kvs=>obtain ⟨_,_,_,_,o,_,_,e,_⟩:=x; exact ⟨_,e⟩
  | dT kvs=>obtain ⟨_,_,_,_,o,_,_,e,_⟩:=x; exact ⟨_,e⟩
  | set S n=>obtain ⟨o,_,_,_,e,_⟩:=x; exact ⟨_,e⟩
  | ins C dx fs=>obtain ⟨_,_,_,e,_⟩:=x; exact ⟨_,e⟩
  | own y=>exact x
  | xd fs=>obtain ⟨_,⟨_,_,_,e,_⟩,_⟩:=x; exact ⟨_,e⟩
  | rng lo hi=>obtain ⟨_,_,_,e⟩:=x; exact ⟨_,e⟩
  | frz ob u=>exact ⟨_,x.1⟩
  | tbl ps=>exact ⟨_,show h.get? a = some _ from x⟩
  | met f y=>exact ⟨_,show h.get? a = some _ from x⟩
  | ext φ=>exact x.2.1
def CXx (P:Program) (w:World):CXT:=fun outer H s E e s'=>∃ ea C T H',e = .ref ea ∧ s'.os = s.os ∧ AllBare s'.gens ∧ Un (frs outer) [] H H' s.heap s'.heap ∧ HOk P w H' s'.heap ∧ TrdAt s'.heap ea (.ref C) T .none ∧
  s.heap.get? ea = none ∧ s.heap.get? T = none ∧ H' ea = none ∧ H' T = none ∧ E (.ref C) (some ea) H'
section
variable {X:Cx} {pins:List (Addr × Obj)} {σ:List (Option V)} {H:Hp} {s:Shared}
def Own (X:Cx) (pins:List (Addr × Obj)) (b:Addr):Prop:=X.s₀.heap.get? b = none ∧ b ≠ X.env.locals ∧ (∀ x c,X.env.cells.lookup x = some c → c ≠ b) ∧ ∀ p ∈ X.pn ++ pins,p.1 ≠ b
theorem Inv.freshX (I:Inv X pins σ H s) (hx:X.ex = []) {b:Addr} (hb:s.heap.get? b = none):Own X pins b:=by
  refine ⟨?_,fun z=>?_,fun x c ec z=>?_,fun p hp z=>?_⟩
  · cases q:X.s₀.heap.get? b with
    | none=>rfl
    | some o =>
      obtain ⟨o',e'⟩:=I.base.there b o q (by rw [hx]; simp)
      rw [hb] at e'; cases e'
  · obtain ⟨m,⟨o,_,_,ho,_⟩,_⟩:=I.loc
    rw [← z,hb] at ho; cases ho
  · obtain ⟨v,o,ho,_⟩:=I.cell x c ec
    rw [z,hb] at ho; cases ho
  · have:=(I.pin p hp).1
    rw [z,hb] at this; cases this
theorem Inv.freeX (I:Inv X pins σ H s) {b:Addr} (hb:s.heap.get? b = none):H b = none:=by
  cases q:H b with
  | none=>rfl
  | some u =>
    obtain ⟨ob,hob⟩:=(I.hok b u q).there
    rw [hb] at hob; cases hob
theorem Inv.keptX {h'':Heap} {ea T:Addr} (I:Inv X pins σ H s) (hea:H ea = none) (hT:H T = none) (oa:Own X pins ea) (oT:Own X pins T) (k:KeptX (frs X.stack) ea T s.heap h''):Inv X pins σ H { s with heap:=h'' }:=by
  have u:Un (frs X.stack) [ea,T] H H s.heap h'':=by
    refine ⟨fun b o e n hb hx=>?_,fun b o e n hb hx=>k.slot b o e hb,fun b o e n hx=>n,fun b o e hx=>?_,fun b xs e=>e,fun b o xs e=>e,fun b ps e=>⟨#[],by rw [e]; simp⟩⟩
    · have hx':¬ (b = ea ∨ b = T):=by simpa using hx
      exact k.keep b o e hb (fun z=>hx' (.inl z)) fun z=>hx' (.inr z)
    · have hx':¬ (b = ea ∨ b = T):=by simpa using hx
      by_cases hb:b ∈ frs X.stack
      · obtain ⟨sl,q⟩:=k.slot b o e hb
        exact ⟨_,q⟩
      · exact ⟨o,k.keep b o e hb (fun z=>hx' (.inl z)) fun z=>hx' (.inr z)⟩
  have hok:HOk X.prog X.w H h'':=fun b o e=>(I.hok b o e).stay (fun c v hc q=>by
    have hc':∃ u,H c = some u:=by
      rcases hc with z | z
      · exact ⟨o,by rw [z]; exact e⟩
      · exact ⟨_,z⟩
    obtain ⟨u',hu⟩:=hc'
    exact k.keep c v q (fun z=>by rw [I.stkFree c z] at hu; cases hu) (fun z=>by rw [z,hea] at hu; cases hu) fun z=>by rw [z,hT] at hu; cases hu) (fun _ q=>q) fun _ _ q=>q
  exact I.callW (g':=s.gens) (t':=s.toks) (d':=s.drawn) (ch:=[ea,T]) u hok I.bare fun b hb=>by
    have hb':b = ea ∨ b = T:=by simpa using hb
    rcases hb' with z | z <;> subst z
    · exact ⟨.inr oa.1,oa.2⟩
    · exact ⟨.inr oT.1,oT.2⟩
theorem note_still {M:Model} {A:Around} {E:Value → Shared → Prop} {Q:Unit → Shared → Prop} {ea T:Addr} {cls:Value} (I:Inv X pins σ H s) (hx:X.ex = []) (stk:X.stack = X.env :: X.outer) (fr:X.env.frame = some X.env.locals) (hA:A.frames = some X.stack)
    (tr:TrdAt s.heap ea cls T .none) (hea:H ea = none) (hT:H T = none) (oa:Own X pins ea) (oT:Own X pins T)
    (h:∀ h' T',Inv X pins σ H { s with heap:=h' } → TrdAt h' ea cls T' .none → H T' = none → Own X pins T' → Q () { s with heap:=h' }) :
    wpAny M A (noteFrame (.ref ea) X.env) (fun _ s'=>wpAny M A (setFlight (.ref ea) none) Q E s') E s:=by
  refine fly_note (base:=X.base) (outer:=X.outer) (L:=X.env.locals) (by rw [hA,stk]) (by rw [← stk]; exact I.stack) fr tr fun h' T' hn ht' hk=>?_
  rw [← stk] at hk
  have I1:=I.keptX hea hT oa oT hk
  have hT':=I.freeX hn
  have oT':=I.freshX hx hn
  refine fly_still (s:={ s with heap:=h' }) (base:=X.base) (outer:=X.stack) ht' I1.stack fun h2 ht2 hk2=>?_
  exact h h2 T' (I1.keptX hea hT' oa oT' hk2) ht2 hT' oT'
theorem note_first {M:Model} {A:Around} {E:Value → Shared → Prop} {Q:Unit → Shared → Prop} {ea:Addr} {oe:Obj} {vs:Array Value} (I:Inv X pins σ H s) (hx:X.ex = []) (stk:X.stack = X.env :: X.outer) (fr:X.env.frame = some X.env.locals) (hA:A.frames = some X.stack)
    (he:s.heap.get? ea = some oe) (hd:oe.data = .fields vs) (h1:vs[1]? = some .none) (h2c:vs[2]? = some .none) (hdi:oe.dict = none) (hea:H ea = none) (oa:Own X pins ea)
    (h:∀ h' T',Inv X pins σ H { s with heap:=h' } → TrdAt h' ea oe.cls T' .none → H T' = none → Own X pins T' → Q () { s with heap:=h' }) :
    wpAny M A (noteFrame (.ref ea) X.env) (fun _ s'=>wpAny M A (setFlight (.ref ea) none) Q E s') E s:=by
  refine fly_first (base:=X.base) (outer:=X.outer) (L:=X.env.locals) (by rw [hA,stk]) (by rw [← stk]; exact I.stack) fr he hd h1 h2c hdi fun h' T' hn ht' hk=>?_
  rw [← stk] at hk
  have I1:=I.keptX hea hea oa oa hk
  have hT':=I.freeX hn
  have oT':=I.freshX hx hn
  refine fly_still (s:={ s with heap:=h' }) (base:=X.base) (outer:=X.stack) ht' I1.stack fun h2 ht2 hk2=>?_
  exact h h2 T' (I1.keptX hea hT' oa oT' hk2) ht2 hT' oT'
structure Leaves (X:Cx) (E₀:XK):Prop where
  ex:X.ex = []
  stk:X.stack = X.env :: X.outer
  fr:X.env.frame = some X.env.locals
  xe:X.xe = fun e s'=>wpAny (model X.prog X.w) X.A (leaving X.env e) (fun _ s''=>CXx X.prog X.w X.outer X.H₀ X.s₀ E₀ e s'') (fun e' s''=>CXx X.prog X.w X.outer X.H₀ X.s₀ E₀ e' s'') s'
theorem leaves_cx {P:Program} {w:World} {K:PySem.W.Frag} {mg:Str → Option Value} {base:Heap} {N:List Str} {qual:Str} {scope:Scope} {f:Addr} {cd:Value} {A:Around} {outer:List Env} {s:Shared} {H:Hp} {E:XK} :
    Leaves (cxOf (CXx P w) P w K mg base N qual scope f cd A outer s H E) E:=⟨rfl,rfl,rfl,rfl⟩
theorem Inv.cxx {ea C T:Addr} {E₀:XK} (I:Inv X pins σ H s) (hx:X.ex = []) (tr:TrdAt s.heap ea (.ref C) T .none) (hea:H ea = none) (hT:H T = none) (oa:Own X pins ea) (oT:Own X pins T) (hq:E₀ (.ref C) (some ea) H) :
    CXx X.prog X.w X.outer X.H₀ X.s₀ E₀ (.ref ea) s:=by
  have u:=I.base
  rw [hx] at u
  exact ⟨ea,C,T,H,rfl,I.os,I.bare,u,I.hok,tr,oa.1,oT.1,hea,hT,hq⟩
theorem passx {E E₀:XK} (L:Leaves X E₀) (hE:∀ C ea H',E (.ref C) ea H' → E₀ (.ref C) ea H'):Passes (CXx X.prog X.w) X E:=by
  intro pins σ H s e s' I h
  obtain ⟨ea,C,T,H',rfl,os,bare,un,hok,tr,ne,nT,he,hT,hq⟩:=h
  have I2:Inv X pins σ H' s':=I.call' (ch:=[]) os un hok bare fun b z=>nomatch z
  rw [L.xe]
  unfold leaving
  refine wpAny_bind (note_still I2 L.ex L.stk L.fr I.ok.frames tr he hT (I.freshX L.ex ne) (I.freshX L.ex nT) fun h' T' I3 tr' hT' oT'=>?_)
  exact I3.cxx L.ex tr' he hT' (I.freshX L.ex ne) oT' (hE _ _ _ hq)
abbrev veM:List Value:=[.type "ValueError", .type "Exception", .type "BaseException", .type "object"]
def ExObj (K:PySem.W.Frag) (C:Addr):Prop:=∃ bm N nm q bs hdct sn sub ab col dd k0 k1 k2 k3 k5,K.lookup C = some (excClassObj nm q C N bs bm hdct sn sub ab col dd k0 k1 k2 k3 k5 "ValueError.__new__") ∧
  PySem.W.nsOkIn K N = true ∧ PySem.W.nsIn K N "__init__" = some none ∧ PySem.W.tailIn K veM bm = true
def tRaise (C:Addr) (E₀:XK):TS:=fun _ _ H=>∀ ea,H ea = none → E₀ (.ref C) (some ea) H
theorem ps_raise {E₀:XK} (L:Leaves X E₀) (hc:X.calm = true) {x:Str} {m:Str} {k:Nat} {C:Addr} {np cp cpos pos:Pos} (hg:Gl X x) (hm:X.mg x = some (.ref C)) (hx:ExObj X.K C) (hd:(x == ("__debug__" : Str)) = false:=by decide) :
    PS X (.Raise (some (.Call (.Name x np) [.Constant (.str m) k cp] [] cpos)) none pos) (tRaise C E₀):=by
  intro pins s σ H D I h
  obtain ⟨bm,N,nm,q,bs,hdct,sn,sub,ab,col,dd,k0,k1,k2,k3,k5,hC,hN,hni,hT⟩:=hx
  have FB:=PySem.F.excBase_ValueError
  have T0:OwnTail X.base veM bm:=PySem.W.tail_of_in I.ok.mod.kin hT
  have Ns0:X.base.Ns N (X.base.nsMap N):=.of_isNs (PySem.W.isNs_of_in I.ok.mod.kin hN)
  refine wpAny_Raise_call_subT (C:=C) (nm:=nm) (q:=q) (N:=N) (bs:=bs) (bm:=bm) (hdct:=hdct) (sn:=sn) (sub:=sub) (ab:=ab) (col:=col) (dd:=dd) (k0:=k0) (k1:=k1) (k2:=k2) (k3:=k3) (k5:=k5)
    FB (mN:=X.base.nsMap N) (T0.hasType FB.hasBase) (I.ok.hd hc) rfl (PySem.W.nsMap_none_of_in I.ok.mod.kin hN hni) (ld_glob I hg hm ⟨rfl,?_⟩ hd)
  refine Calls.evalArgs_plain (x:=eval (.Constant (.str m) k cp) X.env) (Calls.spliced_cons ?_)
  refine Calls.Constant_str (k:=k) (pos:=cp) ?_
  refine Calls.spliced_nil ?_
  have I1:Inv X pins σ H { s with toks:=s.toks + 1 }:=I.tok _
  refine ⟨rfl,(by show 1 ≤ sizeLine; decide),I1.bk _ _ (I1.ok.mod.kin _ _ hC),Ns0.keeps I1.bk,T0.keeps I1.bk,fun h1 e hx=>?_⟩
  obtain ⟨t,he,htn,ht⟩:=hx.there
  have hkeep:=hx.keeps
  have hne:H e = none:=I.freeX hx.new
  have oe:=I.freshX L.ex hx.new
  have I2:Inv X pins σ H { s with heap:=h1,toks:=s.toks + 1 }:=I1.kept (t':=s.toks + 1) hkeep
  rw [L.xe]
  unfold leaving
  refine wpAny_bind (note_first (s:={ s with heap:=h1,toks:=s.toks + 1 }) I2 L.ex L.stk L.fr I.ok.frames he rfl rfl rfl rfl hne oe fun h' T' I3 tr' hT' oT'=>?_)
  exact I3.cxx L.ex tr' hne hT' oe oT' (h e hne)
theorem Fun.okx {P:Program} {w:World} {K:PySem.W.Frag} {mg:Str → Option Value} {base:Heap} {x qual:Str} {st:Stmt} {f:Addr} {fd:FuncData} {N ps:List Str} {k:Nat} {sp:Sp} (F:Fun K x qual st f fd) (S:FnScope N ps (defScope st)) (len:∀ vs H Q E,sp vs H Q E → vs.length = ps.length)
    (hbody:∀ (cdv:Value) (A:Around) (outer:List Env) (s:Shared) (H:Hp) (vs:List V) (Q:VK) (E:XK),Room k (A.deeper (envOfC qual (defScope st) s.heap.objs.size f cdv)) → sp vs H Q E →
      ∃ t,PSs (cxOf (CXx P w) P w K mg base N qual (defScope st) f cdv A outer s H E) (defBody st) t ∧ t { nx:=fun _ H'=>Q .non H',rt:=Q } (start N vs) H):FnOk P w K mg base (CXx P w) (k + 1) f fd ps sp:=by
  obtain ⟨oc,od,kV,doc,pm,an,cdv,ct,osl,rfl,lk,hcd⟩:=F.ex
  exact fn_of lk hcd S len fun A outer s H vs Q E hr hsp=>hbody cdv A outer s H vs Q E hr hsp
end
end L2
set_option Elab.async false
set_option linter.all false
set_option maxRecDepth 100000
namespace L2
open PySem PySem.Spec PyProof.Rows
section
variable {X:Cx} {pins:List (Addr × Obj)} {σ:List (Option V)} {H:Hp} {s:Shared}
def exo (C ea:Addr):HO:=.ext fun h=>∃ o vs,h.get? ea = some o ∧ o.cls = .ref C ∧ o.dict = none ∧ o.data = .fields vs ∧ vs[2]? = some .none
theorem exo_ok {P:Program} {w:World} {h:Heap} {ea C T:Addr} {fl:Value} (tr:TrdAt h ea (.ref C) T fl):ObjOk P w H h ea (exo C ea):=by
  obtain ⟨oe,vs,oT,ts,he,hc,hdi,hd,_,h2c,_⟩:=tr
  exact ⟨⟨oe,vs,he,hc,hdi,hd,h2c⟩,⟨oe,he⟩,fun h1 h2 ⟨o,us,e,c⟩ k=>⟨o,us,k o e,c⟩⟩
theorem Inv.takeX {ea:Addr} {o:HO} (I:Inv X pins σ H s) (hea:H ea = none) (oa:Own X pins ea) (new:ObjOk X.prog X.w (upd H ea o) s.heap ea o):Inv X pins σ (upd H ea o) s:=by
  have ne:∀ b u,H b = some u → b ≠ ea:=fun b u e=>ne_of_none e hea
  have u:Un (frs X.stack) [ea] H (upd H ea o) s.heap s.heap:=by
    refine ⟨fun b o e n hb hx=>e,fun b o e n hb hx=>⟨o.slots,e⟩,fun b o e n hx=>?_,fun b o e hx=>⟨o,e⟩,fun b xs e=>?_,fun b o xs e=>?_,fun b ps e=>⟨#[],?_⟩⟩
    · rw [upd_ne (by simpa using hx)]; exact n
    · rw [upd_ne (ne b _ e)]; exact e
    · rw [upd_ne (ne b _ e)]; exact e
    · rw [upd_ne (ne b _ e),e]; simp
  have hok:HOk X.prog X.w (upd H ea o) s.heap:=fun b v e=>by
    by_cases hb:b = ea
    · subst hb; rw [upd_same] at e; cases e; exact new
    · rw [upd_ne hb] at e
      exact (I.hok b v e).stay (fun c v _ q=>q) (fun c q=>by rw [upd_ne (ne c _ q)]; exact q) fun c xs q=>by rw [upd_ne (ne c _ q)]; exact q
  exact I.callW (h':=s.heap) (g':=s.gens) (t':=s.toks) (d':=s.drawn) (ch:=[ea]) u hok I.bare fun b hb=>by
    have z:b = ea:=by simpa using hb
    subst z
    exact ⟨.inr oa.1,oa.2⟩
theorem Inv.forget {h':Heap} {m':Str → Option Value} {t':Nat} (I:Inv X pins σ H s) (hn:h'.Ns X.env.locals m') (hs:Heap.SameBut X.env.locals s.heap h'):Inv X pins (List.replicate σ.length none) H { s with heap:=h',toks:=t' }:=by
  have ne:∀ b o,X.s₀.heap.get? b = some o → b ≠ X.env.locals:=fun b o e=>Nat.ne_of_lt (Nat.lt_of_lt_of_le (Heap.lt_size e) I.ok.above)
  refine ⟨I.ok,I.os,I.bare,⟨fun b o e n hb hx=>(hs.2 b (ne b o e)).trans (I.base.keep b o e n hb hx),fun b o e n hb hx=>?_,I.base.free,fun b o e hx=>?_,I.base.tups,I.base.frzs,I.base.tbls⟩,⟨m',hn,fun i x v e1 e2 e3=>?_⟩,fun y c e=>?_,I.free,I.freeC,fun p hp=>?_,fun b o e=>?_,by rw [List.length_replicate]; exact I.len⟩
  · obtain ⟨sl,e1⟩:=I.base.slot b o e n hb hx
    exact ⟨sl,(hs.2 b (ne b o e)).trans e1⟩
  · obtain ⟨o',e1⟩:=I.base.there b o e hx
    exact ⟨o',(hs.2 b (ne b o e)).trans e1⟩
  · rw [List.getElem?_replicate] at e2
    split at e2 <;> cases e2
  · obtain ⟨w',z⟩:=I.cell y c e
    exact ⟨w',z.sameBut hs (I.cne y c e)⟩
  · obtain ⟨e,n,ne',nf,d⟩:=I.pin p hp
    exact ⟨(hs.2 p.1 ne').trans e,n,ne',nf,d⟩
  · refine (I.hok b o e).stay (fun c v hc q=>(hs.2 c ?_).trans q) (fun _ q=>q) fun _ _ q=>q
    rintro rfl
    rcases hc with rfl | hc
    · rw [I.free] at e; cases e
    · rw [I.free] at hc; cases hc
abbrev Cx.pinX (X:Cx) (pins:List (Addr × Obj)) (xe:Value → Shared → Prop):Cx:={ X with pn:=X.pn ++ pins,xe:=xe }
theorem Inv.pinX {xe:Value → Shared → Prop} (I:Inv X pins σ H s):Inv (X.pinX pins xe) [] σ H s :=
  have o:=I.ok
  ⟨⟨o.mod,o.kind,o.glob,o.blt,o.above,o.inj,o.has,o.cab,o.hd,o.frames,o.stk,o.exf,o.bs,o.bsz,o.noex,o.exfs,o.funs,o.frf⟩,I.os,I.bare,I.base,I.loc,I.cell,I.free,I.freeC,fun p hp=>I.pin p (by simpa using hp),I.hok,I.len⟩
theorem Inv.unpinX {xe:Value → Shared → Prop} {pins2:List (Addr × Obj)} (I:Inv (X.pinX pins xe) pins2 σ H s):Inv X pins σ H s :=
  have o:=I.ok
  ⟨⟨o.mod,o.kind,o.glob,o.blt,o.above,o.inj,o.has,o.cab,o.hd,o.frames,o.stk,o.exf,o.bs,o.bsz,o.noex,o.exfs,o.funs,o.frf⟩,I.os,I.bare,I.base,I.loc,I.cell,I.free,I.freeC,fun p hp=>I.pin p (List.mem_append_left _ hp),I.hok,I.len⟩
abbrev Cx.inExc (X:Cx) (e:Value):Cx:={ X with A:=X.A.mark (some e),calm:=false,xe:=fun _ _=>False }
theorem Inv.inExc {e:Value} (I:Inv X pins σ H s):Inv (X.inExc e) pins σ H s :=
  have o:=I.ok
  ⟨⟨o.mod,o.kind,o.glob,o.blt,o.above,o.inj,o.has,o.cab,fun z=>(Bool.false_ne_true z).elim,o.frames,o.stk,o.exf,o.bs,o.bsz,o.noex,o.exfs,o.funs,o.frf⟩,I.os,I.bare,I.base,I.loc,I.cell,I.free,I.freeC,I.pin,I.hok,I.len⟩
theorem Inv.outExc {e:Value} (ok:X.Ok) (I:Inv (X.inExc e) pins σ H s):Inv X pins σ H s:=⟨ok,I.os,I.bare,I.base,I.loc,I.cell,I.free,I.freeC,I.pin,I.hok,I.len⟩
theorem handle_exm {prog:Program} {w:World} {A:Around} {E:Value → Shared → Prop} {s:Shared} {env:Env} {e R:Addr} {t:Expr} {n:Str} {b₀:Stmt} {suite:List Stmt} {pos:Pos} {rest:List ExceptHandler} {Q:Flow → Shared → Prop}
    (h:wpAny (model prog w) (A.mark (some (.ref e))) (eval t env) (fun c s₁=>c = .ref R ∧ PySem.W.Looks (model prog w) s₁.heap (excMatches (.ref e) (.ref R)) true ∧
      wpAny (model prog w) (A.mark (some (.ref e))) (setFlight (.ref e) none) (fun _ s₂=>wpAny (model prog w) (A.mark (some (.ref e))) (storeName env n (.ref e)) (fun _ s₃ =>
            wpAny (model prog w) (A.mark (some (.ref e))) (execs (b₀ :: suite) env)
              (fun f s₄=>wpAny (model prog w) A (do bindName env n .none; unbindBehindTheSuite env n pos) (fun _ s₅=>Q f s₅) E s₄) (fun _ _=>False) s₃) (fun _ _=>False) s₂) (fun _ _=>False) s₁) (fun _ _=>False) s) :
    wpAny (model prog w) A (handleBy (.ref e) env (.ExceptHandler (some t) (some n) (b₀ :: suite) pos :: rest)) Q E s:=by
  refine wpAny_handleBy_cons (codeAny_handlers_test (wpAny_mono h (fun c s₁ h₁=>?_) fun _ _ z=>z.elim)) (by intro q; cases q)
  obtain ⟨rfl,LT,hk⟩:=h₁
  exact LT.here (codeAny_handlers_suite_as (wpAny_mono hk (fun _ s₂ h₂=>wpAny_mono h₂ (fun _ s₃ h₃=>wpAny_mono h₃ (fun _ _ z=>z) fun _ _ z=>z.elim) fun _ _ z=>z.elim) fun _ _ z=>z.elim))
def tTry (K:PySem.W.Frag) (R:Addr) (k:Nat) (tb:XK → TS) (ts:Value → TS):TS:=fun D σ H =>
  tb (fun c a H'=>∃ C ea,c = .ref C ∧ a = some ea ∧ PySem.W.exmOne K (.ref C) (.ref R) = some true ∧ ∀ σ':St,σ'.length = σ.length → ts (.ref ea) { nx:=fun _ _=>False,rt:=D.rt } (σ'.set k (some (.ref ea))) (upd H' ea (exo C ea))) D σ H
theorem ps_try {x n:Str} {R:Addr} {k:Nat} {tb:XK → TS} {ts:Value → TS} {body suite:List Stmt} {b₀:Stmt} {np hpos pos:Pos} (hex:X.ex = []) (stk:X.stack = X.env :: X.outer) (fr:X.env.frame = some X.env.locals) (hN:X.N.Nodup) (hk:X.N[k]? = some n) (hl:X.env.scope.names.lookup n = some .local)
    (hg:Gl X x) (hm:X.mg x = some (.ref R)) (hb:∀ pins xe E,Passes (CXx X.prog X.w) (X.pinX pins xe) E → PSs (X.pinX pins xe) body (tb E)) (hs:∀ e,PSs (X.inExc e) (b₀ :: suite) (ts e)) (hd:(x == ("__debug__" : Str)) = false:=by decide) :
    PS X (.Try body [.ExceptHandler (some (.Name x np)) (some n) (b₀ :: suite) hpos] [] [] pos) (tTry X.K R k tb ts):=by
  intro pins s σ H D I h
  refine wpAny_Try_except ?_
  obtain ⟨E0,hE0⟩:∃ E0:XK,E0 = (fun c a H'=>∃ C ea,c = .ref C ∧ a = some ea ∧ PySem.W.exmOne X.K (.ref C) (.ref R) = some true ∧ ∀ σ':St,σ'.length = σ.length → ts (.ref ea) { nx:=fun _ _=>False,rt:=D.rt } (σ'.set k (some (.ref ea))) (upd H' ea (exo C ea))):=⟨_,rfl⟩
  have h0:tb E0 D σ H:=by rw [hE0]; exact h
  obtain ⟨xe,hxe⟩:∃ xe:Value → Shared → Prop,xe = fun e s'=>∃ σ' H' ea C T,e = .ref ea ∧ Inv X pins σ' H' s' ∧ TrdAt s'.heap ea (.ref C) T .none ∧ H' ea = none ∧ H' T = none ∧ Own X pins ea ∧ Own X pins T ∧ E0 (.ref C) (some ea) H':=⟨_,rfl⟩
  have hpass:Passes (CXx X.prog X.w) (X.pinX pins xe) E0:=by
    intro pins2 σ2 H2 s2 e s' I2 hx
    obtain ⟨ea,C,T,H',rfl,os,bare,un,hok,tr,ne,nT,he,hT,hq⟩:=hx
    have I2':Inv X pins σ2 H2 s2:=I2.unpinX
    have I3:Inv X pins σ2 H' s':=I2'.call' (ch:=[]) os un hok bare fun b z=>nomatch z
    show xe _ _
    rw [hxe]
    exact ⟨σ2,H',ea,C,T,rfl,I3,tr,he,hT,I2'.freshX hex ne,I2'.freshX hex nT,hq⟩
  refine wpAny_mono (hb pins xe E0 hpass [] s σ H D I.pinX h0) (fun f s1 q=>?_) (fun e s1 q=>?_)
  · cases f with
    | next=>obtain ⟨σ',H',I',q⟩:=q; exact wpAny_execs_nil ⟨σ',H',I'.unpinX,q⟩
    | brk=>obtain ⟨σ',H',I',q⟩:=q; exact ⟨σ',H',I'.unpinX,q⟩
    | cont=>obtain ⟨σ',H',I',q⟩:=q; exact ⟨σ',H',I'.unpinX,q⟩
    | ret u=>obtain ⟨v,σ',H',I',q⟩:=q; exact ⟨v,σ',H',I'.unpinX,q⟩
  · have q:xe e s1:=q
    rw [hxe] at q
    obtain ⟨σ',H',ea,C,T,rfl,I',tr,hea,hT,oea,oT,q⟩:=q
    rw [hE0] at q
    obtain ⟨C',ea',e1,e2,hx,hq⟩:=q
    cases e1; cases e2
    refine note_still I' hex stk fr I.ok.frames tr hea hT oea oT fun h2 T2 I2 tr2 hT2 oT2=>?_
    refine handle_exm (R:=R) ?_
    refine ld_glob (X:=X.inExc (.ref ea)) I2.inExc hg hm ⟨rfl,?_,?_⟩ hd
    · obtain ⟨oe,vs,_,_,he,hc,_⟩:=id tr2
      exact PySem.W.exm_one I2.kIn (hc ▸ (PySem.W.Looks.ld he).andThen .now) hx
    · refine fly_still (base:=X.base) (outer:=X.stack) tr2 I2.stack fun h3 tr3 hk3=>?_
      have I3:=I2.keptX hea hT2 oea oT2 hk3
      have I4:=I3.takeX (o:=exo C ea) hea oea (exo_ok tr3)
      refine store_ok (X:=X.inExc (.ref ea)) (v:=.ref ea) I4.inExc hN hk (.inl hl) rfl (fun s' I5=>?_) (.inr hl)
      refine wpAny_mono (hs _ pins s' _ _ _ I5 (hq σ' (by rw [I'.len,I.len]))) (fun f s5 q=>?_) (fun _ _ z=>z)
      cases f with
      | next=>obtain ⟨_,_,_,q⟩:=q; exact q.elim
      | brk=>obtain ⟨_,_,_,q⟩:=q; exact q.elim
      | cont=>obtain ⟨_,_,_,q⟩:=q; exact q.elim
      | ret u =>
        obtain ⟨v,σ5,H5,I6,r,q⟩:=q
        have I6':Inv X pins σ5 H5 s5:=Inv.outExc I.ok I6
        obtain ⟨m,hn,_⟩:=id I6'.loc
        refine wpAny_nameGoes hl hn (by rw [I.ok.kind]; rfl) fun h' m' hn' hs'=>?_
        exact ⟨v,_,H5,I6'.forget hn' hs',r,q⟩
structure ExCls (K:PySem.W.Frag) (C:Addr):Prop where
  ga:PySem.W.findIn K (.ref C) "__getattribute__" = some (some (.builtin "BaseException.__getattribute__"))
  gt:PySem.W.findIn K (.ref C) "__getattr__" = some none
  fc:PySem.W.findIn K (.ref C) "__class__" = some (some (.builtin "object.__class__"))
  mro:PySem.W.mroIn K C (.type "object") = some true
  be:PySem.W.subIn K (.ref C) (.type "BaseException") = some true
  cls:(PySem.W.clsIn K C).isSome = true
section
variable {prog:Program} {w:World} {A:Around} {E:Value → Shared → Prop} {K:PySem.W.Frag} {x C:Addr} {ox:Obj} {h:Heap} {g:Array GenState} {d:Drawn} {t:Nat} {os:OsState}
theorem class_entry_exc {tk:Tok} {Q:Fin → Shared → Prop} (c:ExCls K C) (KX:K.In h) (I:PySem.W.InstAt h x ox C none) (hq:Q (.done (.ret (.ref C))) ⟨h,g,d,t,os⟩) :
    wpAny (model prog w) A (Builtin.«object.__getattribute__» ⟨[.ref x,.str "__class__" tk],[]⟩) Q E ⟨h,g,d,t,os⟩:=by
  have hx:=I.at_
  have hc:=I.cls
  have hT5:(⟨h,g,d,t,os⟩:Shared).TypeIs (.builtin "object.__class__") "getset_descriptor" := F.typeOf_object_class
  have f5:=F.typeOf_object_class
  have f6:=F.slot_gs_get.lookup
  have f7:=F.slot_gs_set.lookup
  have L3:=PySem.W.looks_findIn (M:=model prog w) KX c.fc
  repeat (any_goals (first | assumption | (with_reducible refine wpAny_loadPart_at hx ?_; rw [hc]) | (with_reducible refine L3.at ?_) | wp_step))
  refine PySem.W.class_get (s:=⟨h,g,d,t,os⟩) (od:=none) KX I c.mro ?_
  repeat (any_goals (first | assumption | wp_step))
theorem check_ga_exc {nameV:Value} {Q:Unit → Shared → Prop} (c:ExCls K C) (KX:K.In h) (I:PySem.W.InstAt h x ox C none) (hq:Q () ⟨h,g,d,t,os⟩):wpAny (model prog w) A (checkBuiltinCall "BaseException.__getattribute__" ⟨[.ref x,nameV],[]⟩) Q E ⟨h,g,d,t,os⟩:=by
  have hk:builtinKind "BaseException.__getattribute__" = some .slot:=by decide +kernel
  have hsplit:splitId "BaseException.__getattribute__" = some ("BaseException", "__getattribute__"):=by decide +kernel
  have ha:=F.args_bexc_ga (.ref x) nameV
  have LI:PySem.W.Looks (model prog w) h (isInstance (.ref x) (.type "BaseException")) true:=(I.type (M:=model prog w)).andThen (PySem.W.looks_subIn KX c.be)
  simp only [checkBuiltinCall,hk,hsplit]
  refine wpAny_bind (LI.at ?_)
  repeat (any_goals (first | assumption | wp_step))
theorem class_by_exc {tk:Tok} {fill expr:Bool} {Q:Value → Shared → Prop} (c:ExCls K C) (KX:K.In h) (I:PySem.W.InstAt h x ox C none) (hq:Q (.ref C) ⟨h,g,d,t,os⟩) :
    wpAny (model prog w) A (getAttrBy (.ref x) (.str "__class__" tk) fill expr) Q E ⟨h,g,d,t,os⟩:=by
  have hx:=I.at_
  have hc:=I.cls
  have f3:=F.excAttr_ValueError.ga.bind (.ref x)
  have hx0:(expr && onTheHeap (Value.builtin "BaseException.__getattribute__")) = false:=by cases expr <;> rfl
  have hx2:(Value.builtin "BaseException.__getattribute__" == Value.builtin "object.__getattribute__") = false:=by decide +kernel
  have hx1:(onTheHeap (Value.ref C) && Value.builtin "BaseException.__getattribute__" == Value.builtin "object.__getattribute__") = false:=by rw [hx2]; rfl
  have L1:=PySem.W.looks_findIn (M:=model prog w) KX c.ga
  have L2:=PySem.W.looks_findIn (M:=model prog w) KX c.gt
  repeat (any_goals (first | assumption | (with_reducible refine wpAny_loadPart_at hx ?_; rw [hc]) | (with_reducible refine L1.at ?_) | (with_reducible refine L2.at ?_) | wp_step))
  refine codeAny_call_builtin F.excAttr_ValueError.ga.plain F.entry_bexc_ga (check_ga_exc c KX I (class_entry_exc c KX I ?_))
  repeat (any_goals (first | assumption | wp_step))
theorem class_attr_exc {Q:Option Value → Shared → Prop} (c:ExCls K C) (KX:K.In h) (I:PySem.W.InstAt h x ox C none) (hq:Q (some (.ref C)) ⟨h,g,d,t + 1,os⟩):wpAny (model prog w) A (getAttr? (.ref x) "__class__") Q E ⟨h,g,d,t,os⟩:=by
  unfold getAttr? getAttrBy?
  repeat (any_goals (first | assumption | with_reducible apply class_by_exc c KX I | wp_step))
end
theorem kitx_exc {K:PySem.W.Frag} {x D:Addr} (c:ExCls K D):PySem.W.KitX K (.ref x) (.ref D) (fun h=>∃ ox,PySem.W.InstAt h x ox D none) where
  ty:=fun _ _ _ ⟨_,I⟩=>I.type
  it:=fun _ _ X _=>by
    obtain ⟨cd,hcD⟩:=Option.isSome_iff_exists.mp c.cls
    unfold PySem.W.clsIn at hcD
    split at hcD
    · rename_i c' d' cd' sl' ho
      intro A' Q' E' s' k q
      unfold isType loadHead
      exact wpAny_bind (wpAny_loadPart (k _ _ (X _ _ ho)) (wpAny_pure q))
    · cases hcD
  ne:=fun h tp dd its n sl X htp=>by
    obtain ⟨cd,hcD⟩:=Option.isSome_iff_exists.mp c.cls
    refine Bool.eq_false_iff.mpr fun q=>?_
    have e:D = tp:=Value.ref.inj (beq_iff_eq.mp q)
    subst e
    unfold PySem.W.clsIn at hcD
    split at hcD
    · rename_i c' d' cd' sl' ho
      have z:=(X _ _ ho).symm.trans htp
      cases z
    · cases hcD
  ca:=fun {_ _ _ _ _ s} X ⟨ox,I⟩ k=>by
    obtain ⟨h,g,d,t,os⟩:=s
    exact class_attr_exc c X I k
theorem call_isexc:CallR X (.builtin "isinstance") (fun xs H Q=>∃ ea c C k b,xs = [.ref ea,c] ∧ H ea = some (exo C ea) ∧ ExCls X.K C ∧ clsV c = some k ∧ PySem.W.kitOne X.K (.ref C) k = some b ∧ Q (.bl b) H):=by
  intro pins s σ H xs us Q I r h
  obtain ⟨ea,c,C,k,b,e,ho,hC,hk,e2,q⟩:=h
  subst e
  obtain ⟨u,v,rfl,ru,rv⟩:=vals2 r
  have ev:v = k:=by
    cases c with
    | ref a=>cases rv; cases hk; rfl
    | ty n=>cases rv; cases hk; rfl
    | _=>cases hk
  subst ev
  cases (show u = Value.ref ea from ru)
  obtain ⟨⟨o,vs,h1,h2,h3,h4,_⟩,_⟩:=(show ObjOk X.prog X.w H s.heap ea (exo C ea) from I.hok ea _ ho)
  refine PySem.W.kia_one (kitx_exc hC) I.kIn ⟨o,h1,h2,?_,?_⟩ e2 (fun z=>nomatch z) fun tk=>⟨.bl b,H,I.tok tk,rfl,q⟩
  · unfold PySem.W.notCls; rw [h4]
  · rw [h3]; trivial
end
end L2
set_option Elab.async false
set_option linter.all false
set_option maxRecDepth 100000
namespace L2
open PySem PySem.Spec PyProof.Rows
section
variable {X:Cx} {pos:Pos}
end
section
variable {X:Cx}
theorem passNo {X:Cx} {P:Program} {w:World}:Passes (CXx P w) X (fun _ _ _=>False):=by
  intro pins σ H s e s' I h
  obtain ⟨ea,C,T,H',_,_,_,_,_,_,_,_,_,_,q⟩:=h
  exact q.elim
end
end L2
set_option Elab.async false
set_option linter.all false
set_option maxRecDepth 100000
namespace L2
open PySem PySem.Spec PyProof.Rows
section
variable {prog:Program} {w:World} {A:Around} {R:Result → Shared → Prop} {s:Shared}
theorem codeAny_compLoop_x {elt target iter:Expr} {ifs:List Expr} {scope:Scope} {pos:Pos} {it acc:Value} {env:Env} (I:Nat → Shared → Prop) {EE:Value → Shared → Prop} (hEE:∀ e s',EE e s' → notedBy (model prog w) A env (fun x s''=>R (.error x) s'') e s')
    (turn:∀ n s,I n s → wpAny (model prog w) A (pyNext it) (fun r s₁=>match r with
      | none=>R (.ok .next) s₁
      | some v=>wpAny (model prog w) A (letOwnedTupleGo target it v) (fun _ s₁'=>wpAny (model prog w) A (assign target env v) (fun _ s₂ =>
          wpAny (model prog w) A (forIn ifs true fun c r=>if r = true then do let ok ← isTrue c env (eval c env); pure (ForInStep.yield ok) else pure (ForInStep.yield r)) (fun ok s₃ =>
            if ok = true then wpAny (model prog w) A (eval elt env) (fun x s₄ =>
              wpAny (model prog w) A (call (.builtin "list.append") [acc,x]) (fun _ s₅=>∃ m,m < n ∧ I m s₅) (fun _ _=>False) s₄) EE s₃
            else ∃ m,m < n ∧ I m s₃) (fun _ _=>False) s₂) (fun _ _=>False) s₁') (fun _ _=>False) s₁) (fun _ _=>False) s)
    (n:Nat) (h:I n s) :
    codeAny (model prog w) A (.compLoop (.ListComp elt [⟨target,iter,ifs,0⟩] scope pos) 0 it acc env) R s:=by
  refine codeAny_loop rfl I (fun n s hI=>?_) n h
  show wpAny _ A ((compTurn (.ListComp elt [⟨target,iter,ifs,0⟩] scope pos) 0 it acc env).onRaise (fun x=>do noteFrame x env; theTreesLotGoes x)) _ _ s
  refine wpAny_noted ?_
  rw [compTurn_list]
  refine wpAny_bind (wpAny_standAt (wpAny_bind (wpAny_mono (turn n s hI) (fun r s₁ h₁=>?_) fun _ _ h'=>h'.elim)))
  cases r with
  | none=>exact wpAny_pure h₁
  | some v =>
    refine wpAny_bind (wpAny_mono h₁ (fun _ s₁' h₁'=>?_) fun _ _ h'=>h'.elim)
    refine wpAny_bind (wpAny_mono h₁' (fun _ s₂ h₂=>wpAny_bind (wpAny_mono h₂ (fun ok s₃ h₃=>?_) fun _ _ h'=>h'.elim)) fun _ _ h'=>h'.elim)
    cases ok with
    | false=>exact wpAny_pure ⟨rfl,h₃⟩
    | true =>
      exact wpAny_bind (wpAny_bind (wpAny_mono h₃ (fun x s₄ h₄=>wpAny_bind (wpAny_mono h₄ (fun _ s₅ h₅=>wpAny_pure (wpAny_pure ⟨rfl,h₅⟩)) fun _ _ h'=>h'.elim)) fun e s' h'=>hEE e s' h'))
end
theorem comp_runX {X:Cx} {sc:Scope} {N:List Str} {cp:List (Option Nat)} {tg iter elt:Expr} {ifs:List Expr} {pos:Pos} {g:TG} {tif:TT} {te:TE} {Sg:List Nat}
    (S:CompSc X.env.scope sc X.N N cp) (hc:X.calm = true) (hg:∀ z,PG (cxC X sc N z) tg g) (hset:Sets g Sg) (hloc:∀ k ∈ Sg,cp[k]? = some none)
    (hif:∀ z,PIf (cxC X sc N z) ifs tif) {XE:CompPt → Value → Shared → Prop} (he:∀ z,PE ((cxC X sc N z).wish (XE z)) elt te)
    {pins:List (Addr × Obj)} {σ:St} {H:Hp} {s:Shared} {it:Addr} {fp:List Addr} {tn:Nat → Heap → Prop} {J:It} {cl:List (Str × Addr)} (I:Inv X pins σ H s) (T:Turn X.prog X.w X.K tg J fp it tn) (st:tn 0 s.heap) (hf:∀ b ∈ fp,FpOk X pins H b)
    (K:ClOk X.env sc cl) {W:Nat → Nat → List V → Hp → Prop} {F:List V → Hp → Prop} {m0:Nat} (w0:W 0 m0 [] H)
    (turn:∀ i m ys H,W i m ys H → (J.stop i H ∧ ys.length ≤ sizeLine ∧ F ys H) ∨ (J.go i H ∧ ys.length ≤ sizeLine ∧ ∃ (N1:V → Hp → Prop) (N0:Hp → Prop),(∀ y H',N1 y H' → ∃ m',m' < m ∧ W (i + 1) m' (ys ++ [y]) H') ∧ (∀ H',N0 H' → ∃ m',m' < m ∧ W (i + 1) m' ys H') ∧ ∀ x H',J.yld i H x H' → g x (captS cp σ) H' fun σ2 H2=>tif σ2 H2 fun b H3=>if b = true then te σ2 H3 N1 else N0 H3))
    {RR:Value → Addr → Result → Shared → Prop} {E:Value → Shared → Prop}
    (hXE:∀ e s',XE ⟨cl,s.heap.objs.size + 1,s.heap.objs.size,{ s with heap:=s.heap.push (accObj [] 0) },H,fp,pins⟩ e s' → notedBy (model X.prog X.w) X.A (compEnvC sc cl (s.heap.objs.size + 1) X.env) (fun x s''=>RR (.ref s.heap.objs.size) (s.heap.objs.size + 1) (.error x) s'') e s')
    (fin:∀ D C s5 ys H5,H5 D = none → F ys H5 → Inv X pins σ (upd H5 D (.lst ys)) s5 → (∃ m,s5.heap.Ns C m) → FpOk X pins (upd H5 D (.lst ys)) C → RR (.ref D) C (.ok .next) s5) :
    wpAny (model X.prog X.w) X.A (newList []) (fun acc s₃=>wpAny (model X.prog X.w) X.A (newFunctionEnv sc X.env.globals cl [] X.env.qual none .none (some X.env)) (fun cenv s₄ =>
      codeAny (model X.prog X.w) X.A (.compStart (.ListComp elt [⟨tg,iter,ifs,0⟩] sc pos) 0 (.ref it) acc { cenv with scope:=relabel sc X.env }) (RR acc cenv.locals) s₄) E s₃) E s:=by
  have hfo:∀ b ∈ fp,∃ o,s.heap.get? b = some o:=fun b hb=>by obtain ⟨o,e,_⟩:=T.obj 0 _ st b hb; exact ⟨o,e⟩
  refine wpAny_newObj_type (wpAny_newFunctionEnv S.nocell (by intro y hy; simp at hy) (fun h4 hns hsb=>?_) S.kind)
  have hns':h4.Ns (s.heap.objs.size + 1) (fun x=>([]:List (Str × Value)).reverse.lookup x):=by
    have z:=hns
    rw [show (s.heap.push { cls:=.type "list", dict:=none,data:=.seq ([]:List Value).toArray }).objs.size = s.heap.objs.size + 1 from Heap.size_push ..] at z
    exact z
  have hC:(s.heap.push (accObj [] 0)).objs.size = s.heap.objs.size + 1:=Heap.size_push ..
  have hsb':∀ b o,b ≠ s.heap.objs.size + 1 → (s.heap.push (accObj [] 0)).get? b = some o → h4.get? b = some o:=fun b o hb e =>
    hsb.extBut b o (by show b ≠ (s.heap.push (accObj [] 0)).objs.size; rw [hC]; exact hb) (Heap.get?_push_of_some _ e)
  have I4:=comp_start (tk:=s.toks + ([]:List (Str × Value)).length) S I hf hfo K hns' hsb'
  have loop:∀ it',it' = Value.ref it →
      codeAny (model X.prog X.w) X.A (.compLoop (.ListComp elt [⟨tg,iter,ifs,0⟩] sc pos) 0 it' (.ref s.heap.objs.size) (compEnvC sc cl (s.heap.objs.size + 1) X.env)) (RR (.ref s.heap.objs.size) (s.heap.objs.size + 1))
        { s with heap:=h4,toks:=s.toks + ([]:List (Str × Value)).length }:=by
    rintro _ rfl
    refine codeAny_compLoop_x (EE:=XE ⟨cl,s.heap.objs.size + 1,s.heap.objs.size,{ s with heap:=s.heap.push (accObj [] 0) },H,fp,pins⟩) (fun k s'=>∃ i ys its n H',Inv (cxC X sc N ⟨cl,s.heap.objs.size + 1,s.heap.objs.size,{ s with heap:=s.heap.push (accObj [] 0) },H,fp,pins⟩) [(s.heap.objs.size,accObj its n)] (captS cp σ) H' s' ∧
      Vals ys its ∧ tn i s'.heap ∧ (∀ b ∈ fp,H' b = none) ∧ W i k ys H') hXE ?_ m0 ⟨0,[],[],0,H,I4,.nil,T.keep _ _ _ st fun b hb o e=>?_,fun b hb=>(hf b hb).1,w0⟩
    · rintro k s1 ⟨i,ys,its,n,H1,I1,rv,st1,fr1,w1⟩
      have fpY:∀ {H':Hp} {p:List (Addr × Obj)},(∀ b ∈ fp,H' b = none) → (∀ q ∈ p,q.1 = s.heap.objs.size) → ∀ b ∈ fp,FpOk (cxC X sc N ⟨cl,s.heap.objs.size + 1,s.heap.objs.size,{ s with heap:=s.heap.push (accObj [] 0) },H,fp,pins⟩) p H' b:=fun {H' p} hn hp b hb=>by
        obtain ⟨f0,f1,f2,f3,f4,f5⟩:=hf b hb
        obtain ⟨o,e⟩:=hfo b hb
        have hlt:=Heap.lt_size e
        refine ⟨hn b hb,Nat.ne_of_lt (Nat.lt_succ_of_lt hlt),fun z=>?_,.inl (List.mem_cons_of_mem _ hb),fun x c ec=>f4 x c (K.sub x c ec),fun q hq z=>?_⟩
        · rcases List.mem_cons.mp (I.stkSub b z) with z | z
          · exact f1 z
          · exact f2 z
        · rcases List.mem_append.mp hq with hq | hq
          · exact f5 q hq z
          · rw [hp q hq] at z
            rw [z] at hlt
            exact absurd hlt (Nat.lt_irrefl _)
      have pD:∀ {its':List Value} {n':Nat},∀ q ∈ [(s.heap.objs.size,accObj its' n')],q.1 = s.heap.objs.size:=fun {its' n'} q hq=>by
        have e:q = (s.heap.objs.size,accObj its' n'):=by simpa using hq
        rw [e]
      rcases turn i k ys H1 w1 with ⟨stop,hz,f⟩ | ⟨go,hz,N1,N0,hN1,hN0,step⟩
      · refine wpAny_mono (T.done (cxC X sc N ⟨cl,s.heap.objs.size + 1,s.heap.objs.size,{ s with heap:=s.heap.push (accObj [] 0) },H,fp,pins⟩) rfl rfl rfl hc i _ s1 _ H1 (fun _ _=>False) I1 (fpY fr1 pD) st1 stop) (fun r s2 ⟨hr,I2⟩=>?_) fun _ _ z=>z
        subst hr
        obtain ⟨e,nn,_⟩:=I2.pin (s.heap.objs.size,accObj its n) (List.mem_append_right _ (by simp))
        obtain ⟨IX,fC⟩:=comp_end I hf I2 e nn rv hz
        obtain ⟨mC,hC2,_⟩:=I2.loc
        exact fin _ _ s2 ys H1 nn f IX ⟨mC,hC2⟩ fC
      · refine wpAny_mono (T.item (cxC X sc N ⟨cl,s.heap.objs.size + 1,s.heap.objs.size,{ s with heap:=s.heap.push (accObj [] 0) },H,fp,pins⟩) rfl rfl rfl hc i _ s1 _ H1 (fun _ _=>False) I1 (fpY fr1 pD) st1 go) (fun r s2 ⟨u,hr,h2⟩=>?_) fun _ _ z=>z
        subst hr
        refine wpAny_mono h2 (fun _ s3 ⟨x,H3,I3,rx,y3,st3,fr3⟩=>?_) fun _ _ z=>z
        have I3':=I3.pinned (fpY fr3 pD) (T.obj _ _ st3)
        refine wpAny_mono (hg _ _ s3 _ H3 x u _ I3' rx (hset _ _ _ _ (step x H3 y3))) (fun _ s4 ⟨σ4,H4,I4',q4,len4,sm4⟩=>?_) fun _ _ z=>z
        refine wpAny_mono (hif _ _ s4 σ4 H4 _ I4' q4) (fun ok s5 ⟨H5,I5,q5⟩=>?_) fun _ _ z=>z
        have weak:∀ (j:Nat) v,(captS cp σ)[j]? = some (some v) → σ4[j]? = some (some v):=fun j v e=>by
          rw [sm4 j ?_]
          · exact e
          · intro hj
            obtain ⟨l,e1,_⟩:=captS_get e
            rw [hloc j hj] at e1
            cases e1
        cases ok with
        | false =>
          obtain ⟨m',hm,w5⟩:=hN0 _ q5
          show ∃ m,m < k ∧ _
          refine ⟨m',hm,i + 1,ys,its,n,H5,?_,rv,?_,fun b hb=>?_,w5⟩
          · exact (I5.unpinned).weak len4.symm weak
          · exact T.keep _ _ _ st3 fun b hb o e=>(I5.pin (b,o) (List.mem_append_right _ (List.mem_append_right _ (mem_pinsAt hb e)))).1
          · obtain ⟨o,e,d⟩:=T.obj _ _ st3 b hb
            exact (I5.pin (b,o) (List.mem_append_right _ (List.mem_append_right _ (mem_pinsAt hb e)))).2.1
        | true =>
          show wpAny _ _ (eval elt _) _ _ s5
          refine wpAny_mono (he _ _ s5 σ4 H5 _ (I5.wish _) q5) (fun v s6 ⟨y,H6,I6',r6,q6⟩=>?_) fun _ _ z=>z
          have I6:=I6'.unwish
          obtain ⟨m',hm,w6⟩:=hN1 _ _ q6
          obtain ⟨eD,nD,_⟩:=I6.pin (s.heap.objs.size,accObj its n) (List.mem_append_right _ (List.mem_append_left _ (by simp)))
          refine wpAny_list_append_plain (items:=its.toArray) ⟨n,eD⟩ (fun h7 pl sb=>?_) (by rw [List.size_toArray,← rv.length]; exact hz)
          obtain ⟨n7,e7⟩:=pl
          have e7':h7.get? s.heap.objs.size = some (accObj (its ++ [v]) n7):=by
            rw [e7]
            show some _ = some _
            unfold accObj
            rw [show its.toArray.push v = (its ++ [v]).toArray by simp]
          have J0:Inv (cxC X sc N ⟨cl,s.heap.objs.size + 1,s.heap.objs.size,{ s with heap:=s.heap.push (accObj [] 0) },H,fp,pins⟩) [] σ4 H6 s6:=I6.pins_of fun p hp=>by cases hp
          have dY:s.heap.objs.size ≠ s.heap.objs.size + 1:=Nat.ne_of_lt (Nat.lt_succ_self _)
          have J1:Inv (cxC X sc N ⟨cl,s.heap.objs.size + 1,s.heap.objs.size,{ s with heap:=s.heap.push (accObj [] 0) },H,fp,pins⟩) [] σ4 H6 { s6 with heap:=h7 }:=by
            refine J0.turned (it:=s.heap.objs.size) (t':=s6.toks) (fun b o hb e=>(sb.2 b hb).trans e) nD dY (.inl List.mem_cons_self) (fun x c ec=>?_) (fun p hp=>?_)
            · obtain ⟨v',q⟩:=I.cell x c (K.sub x c ec)
              exact Nat.ne_of_lt q.lt
            · have hp':p ∈ X.pn ++ pins:=by simpa using hp
              exact Nat.ne_of_lt (Heap.lt_size (I.pin p hp').1)
          have J2:=J1.weak (σ':=captS cp σ) len4.symm weak
          refine ⟨m',hm,i + 1,ys ++ [y],its ++ [v],n7,H6,?_,rv.append (.cons r6 .nil),?_,fun b hb=>?_,w6⟩
          · refine J2.pins_of fun p hp=>?_
            have ep:p = (s.heap.objs.size,accObj (its ++ [v]) n7):=by simpa using hp
            subst ep
            obtain ⟨_,_,d1,d2,_⟩:=I6.pin (s.heap.objs.size,accObj its n) (List.mem_append_right _ (List.mem_append_left _ (by simp)))
            refine ⟨e7',nD,d1,d2,fun v' q=>?_⟩
            have q':Data.seq _ _ = Data.cell v':=q
            cases q'
          · refine T.keep _ _ _ st3 fun b hb o e=>?_
            have e6:=(I6.pin (b,o) (List.mem_append_right _ (List.mem_append_right _ (mem_pinsAt hb e)))).1
            obtain ⟨o',eo⟩:=hfo b hb
            exact (sb.2 b (Nat.ne_of_lt (Heap.lt_size eo))).trans e6
          · obtain ⟨o,e,d⟩:=T.obj _ _ st3 b hb
            exact (I6.pin (b,o) (List.mem_append_right _ (List.mem_append_right _ (mem_pinsAt hb e)))).2.1
    · obtain ⟨o',eo⟩:=hfo b hb
      exact hsb' b o (Nat.ne_of_lt (Nat.lt_succ_of_lt (Heap.lt_size eo))) (Heap.get?_push_of_some _ e)
  have st4:tn 0 h4:=T.keep _ _ _ st fun b hb o e=>hsb' b o (Nat.ne_of_lt (Nat.lt_succ_of_lt (Heap.lt_size e))) (Heap.get?_push_of_some _ e)
  have hCC:(s.heap.push { cls:=.type "list", dict:=none,data:=.seq ([]:List Value).toArray }).objs.size = s.heap.objs.size + 1:=Heap.size_push ..
  have goal:codeAny (model X.prog X.w) X.A (.compStart (.ListComp elt [⟨tg,iter,ifs,0⟩] sc pos) 0 (.ref it) (.ref s.heap.objs.size) (compEnvC sc cl (s.heap.objs.size + 1) X.env)) (RR (.ref s.heap.objs.size) (s.heap.objs.size + 1))
      { s with heap:=h4,toks:=s.toks + ([]:List (Str × Value)).length } :=
    codeAny_compStart_list (loop _ rfl) (T.self X.A 0 { s with heap:=h4,toks:=s.toks + ([]:List (Str × Value)).length } _ _ st4 (loop _ rfl))
  rw [← hCC] at goal
  exact goal
section
variable {M:Model} {A:Around} {E:Value → Shared → Prop} {s:Shared} {base:Heap} {env:Env} {outer:List Env} {L e T:Addr}
theorem fly_note_any {cls fl:Value} {Q:Unit → Shared → Prop} (hfr:A.frames = some (env :: outer)) (hl:s.heap.FunFrames base (env :: outer)) (hf:env.frame = some L) (ht:TrdAt s.heap e cls T fl)
    (h:∀ h' T',(T' = T ∨ s.heap.get? T' = none) → TrdAt h' e cls T' (rawInt L) → KeptX (frsL (env :: outer)) e T s.heap h' → Q () { s with heap:=h' }):wpAny M A (noteFrame (.ref e) env) Q E s:=by
  obtain ⟨oe,vs,oT,ts,he,hc,hdi,hd,h1,h2c,hTe,hT,hdT,h3⟩:=id ht
  by_cases hfl:(fl == rawInt L) = true
  · unfold noteFrame
    simp only [hf]
    refine wpAny_bind (wpAny_field he hd h1 ?_)
    rw [if_pos (show (Value.ref T != Value.none) = true from by simp)]
    refine wpAny_bind (wpAny_field hT hdT h3 ?_)
    rw [if_pos hfl]
    have efl:fl = rawInt L:=beq_iff_eq.mp hfl
    exact wpAny_pure (h s.heap T (.inl rfl) (efl ▸ ht) ⟨fun b o hb _ _ _=>hb,fun b o hb _=>⟨o.slots,hb⟩⟩)
  · subst hc
    unfold noteFrame
    simp only [hf]
    refine wpAny_bind (wpAny_field he hd h1 ?_)
    rw [if_pos (show (Value.ref T != Value.none) = true from by simp)]
    refine wpAny_bind (wpAny_field hT hdT h3 ?_)
    rw [if_neg hfl]
    refine wpAny_bind (wpAny_setField hT hdT (Array.getElem?_eq_some_iff.mp h3).1 ?_)
    have hnT:=fr_notfields hl hT hdT
    have other:∀ b,b ≠ T → (s.heap.update T (Obj.mapFields (·.setIfInBounds 3 Value.none))).get? b = s.heap.get? b:=fun b hb=>Heap.get?_update_other _ _ (Ne.symm hb)
    refine fly_entry hfr (hl.of_keeps fun b o hb hnf=>⟨o,(other b fun q=>by rw [q,hT] at hb; cases hb; exact hnf ts hdT).trans hb,rfl⟩) hf ((other e (Ne.symm hTe)).trans he) hd (Array.getElem?_eq_some_iff.mp h1).1 h2c hdi fun h' T' hn ht' hk=>?_
    refine h h' T' (.inr ?_) ht' ⟨fun b o hb hnf hbe hbT=>hk.keep b o ((other b hbT).trans hb) hnf hbe hbe,fun b o hb hm=>hk.slot b o ((other b fun q=>hnT (q ▸ hm)).trans hb) hm⟩
    by_cases q:T' = T
    · rw [q,Heap.get?_update_self _ hT (Obj.isFreed_of_fields (Obj.data_mapFields hdT _))] at hn; cases hn
    · exact (other T' q).symm.trans hn
theorem fly_pass {α:Type} {what:String} {cls fl:Value} {Q:α → Shared → Prop} (ht:TrdAt s.heap e cls T fl) (hl:s.heap.FunFrames base outer) (cenv:Env)
    (h:∀ h' fl',TrdAt h' e cls T fl' → KeptX (frsL outer) e T s.heap h' → E (.ref e) { s with heap:=h' }):wpAny M A (PySem.passOn what (.ref e) cenv:Sem α) Q E s:=by
  obtain ⟨oe,vs,oT,ts,he,hc,hdi,hd,h1,h2c,hTe,hT,hdT,h3⟩:=ht
  have hsz3:3 < ts.size:=(Array.getElem?_eq_some_iff.mp h3).1
  have hnT:=fr_notfields hl hT hdT
  unfold PySem.passOn
  refine wpAny_bind (wpAny_field he hd h1 ?_)
  rw [if_neg (show ¬ ((Value.ref T == Value.none) = true) from by simp)]
  unfold setFlight
  refine wpAny_bind (wpAny_bind (wpAny_field he hd h1 ?_))
  rw [if_pos (show (Value.ref T != Value.none) = true from by simp)]
  refine wpAny_setField hT hdT hsz3 (wpAny_throw (h _ (cenv.frame.elim Value.none fun f=>rawInt f) ⟨oe,vs,_,_,(Heap.get?_update_other _ _ hTe).trans he,hc,hdi,hd,h1,h2c,hTe,Heap.get?_update_self _ hT (Obj.isFreed_of_fields (Obj.data_mapFields hdT _)),Obj.data_mapFields hdT _,by simp [hsz3]⟩ ⟨fun b o hb _ _ hbT=>(Heap.get?_update_other _ _ (Ne.symm hbT)).trans hb,fun b o hb hm=>⟨o.slots,(Heap.get?_update_other _ _ fun (q:T = b)=>hnT (by rw [q]; exact hm)).trans hb⟩⟩))
theorem TrdAt.sameBut {h h':Heap} {cls fl:Value} {C:Addr} (ht:TrdAt h e cls T fl) (sb:Heap.SameBut C h h') (h1:e ≠ C) (h2:T ≠ C):TrdAt h' e cls T fl:=by
  obtain ⟨oe,vs,oT,ts,he,hc,hdi,hd,h1',h2c,hTe,hT,hdT,h3⟩:=ht
  exact ⟨oe,vs,oT,ts,(sb.2 e h1).trans he,hc,hdi,hd,h1',h2c,hTe,(sb.2 T h2).trans hT,hdT,h3⟩
end
section
variable {X:Cx} {pins:List (Addr × Obj)} {σ:St} {H:Hp} {s:Shared}
theorem leave_any {E₀:XK} {ea C T:Addr} {fl:Value} (L:Leaves X E₀) (I:Inv X pins σ H s) (tr:TrdAt s.heap ea (.ref C) T fl) (hea:H ea = none) (hT:H T = none) (oa:Own X pins ea) (oT:Own X pins T) (hq:E₀ (.ref C) (some ea) H):X.xe (.ref ea) s:=by
  rw [L.xe]
  unfold leaving
  refine wpAny_bind (fly_note_any (base:=X.base) (outer:=X.outer) (L:=X.env.locals) (by rw [I.ok.frames,L.stk]) (by rw [← L.stk]; exact I.stack) L.fr tr fun h' T' hT' ht' hk=>?_)
  rw [← L.stk] at hk
  have I1:=I.keptX hea hT oa oT hk
  have hh:H T' = none ∧ Own X pins T':=by
    rcases hT' with z | z
    · rw [z]; exact ⟨hT,oT⟩
    · exact ⟨I.freeX z,I.freshX L.ex z⟩
  refine fly_still (s:={ s with heap:=h' }) (base:=X.base) (outer:=X.stack) ht' I1.stack fun h2 ht2 hk2=>?_
  exact (I1.keptX hea hh.1 oa hh.2 hk2).cxx L.ex ht2 hea hh.1 oa hh.2 hq
def XEx (X:Cx) (sc:Scope) (N:List Str) (E:XK) (z:CompPt) (e:Value) (s':Shared):Prop:=∃ pins' σ' H1 s1,Inv (cxC X sc N z) pins' σ' H1 s1 ∧ CXx X.prog X.w X.stack H1 s1 E e s'
theorem passC {sc:Scope} {N:List Str} {E:XK} {z:CompPt}:Passes (CXx X.prog X.w) ((cxC X sc N z).wish (XEx X sc N E z)) E:=fun pins σ H s e s' I h=>⟨pins,σ,H,s,I.unwish,h⟩
theorem comp_back {sc:Scope} {N:List Str} {pins':List (Addr × Obj)} {σ':St} {H5:Hp} {s5:Shared} {fp:List Addr} {cl:List (Str × Addr)} (I:Inv X pins σ H s) (hf:∀ b ∈ fp,FpOk X pins H b)
    (I5:Inv (cxC X sc N ⟨cl,s.heap.objs.size + 1,s.heap.objs.size,{ s with heap:=s.heap.push (accObj [] 0) },H,fp,pins⟩) pins' σ' H5 s5):Inv X pins σ H5 s5:=by
  have lt:∀ b o,s.heap.get? b = some o → b ≠ s.heap.objs.size:=fun b o e=>Nat.ne_of_lt (Heap.lt_size e)
  have psh:∀ b o,s.heap.get? b = some o → (s.heap.push (accObj [] 0)).get? b = some o:=fun b o e=>Heap.get?_push_of_some _ e
  have nx:∀ b o,s.heap.get? b = some o → b ∉ fp → b ∉ s.heap.objs.size :: fp:=fun b o e h1 h2=>by
    rcases List.mem_cons.mp h2 with z | z
    · exact lt b o e z
    · exact h1 z
  have U:=I5.base
  have hU:Un (frs X.stack) fp H H5 s.heap s5.heap :=
    ⟨fun b o e n1 hb hx=>U.keep b o (psh b o e) n1 hb (nx b o e hx),fun b o e n1 hb hx=>U.slot b o (psh b o e) n1 hb (nx b o e hx),fun b o e n1 hx=>U.free b o (psh b o e) n1 (nx b o e hx),fun b o e hx=>U.there b o (psh b o e) (nx b o e hx),U.tups,U.frzs,U.tbls⟩
  refine I.call' (ch:=fp) (show s5.os = s.os from I5.os) hU I5.hok I5.bare fun b hb=>?_
  obtain ⟨_,f1,_,f3,f4,f5⟩:=hf b hb
  exact ⟨f3,f1,f4,f5⟩
variable {sc:Scope} {N:List Str} {cp:List (Option Nat)} {tg iter elt:Expr} {pos:Pos} {g:TG} {te:TE} {wi:TI} {Sg:List Nat}
theorem pe_comp0X {E E₀:XK} (L:Leaves X E₀) (hE:∀ C ea H',E (.ref C) ea H' → E₀ (.ref C) ea H') (S:CompSc X.env.scope sc X.N N cp) (hc:X.calm = true) (hi:PI X tg iter wi) (hg:∀ z,PG (cxC X sc N z) tg g) (hset:Sets g Sg) (hloc:∀ k ∈ Sg,cp[k]? = some none)
    (he:∀ z,PE ((cxC X sc N z).wish (XEx X sc N E z)) elt te) (hs:∀ x,foldedSetIterable iter X.env x = pure x:=by intro _; rfl) :
    PE X (.ListComp elt [⟨tg,iter,[],0⟩] sc pos) (tComp0 wi cp g te):=by
  intro pins s σ H Q I h
  obtain ⟨cl,K⟩:=I.clOk S
  rw [eval_ListComp]
  refine wpAny_comprehension_free (use:=none) rfl hs K.clos S.kind S.names (thn (hi pins s σ H _ I h) fun xv s1 h1=>thn h1 fun itv s2 h2=>?_)
  obtain ⟨it,fp,tn,J,H2,e,I2,T,st2,f2,W,⟨m0,w0⟩,turn⟩:=h2
  subst e
  refine comp_runX (XE:=XEx X sc N E) (RR:=fun acc C=>compPost (model X.prog X.w) X.A X.xe none (EP X pins σ Q) acc C) (F:=fun ys H5=>∀ p,H5 p = none → Q (.ref p) (upd H5 p (.lst ys))) S hc hg hset hloc (fun z=>pif_nil) he I2 T st2 f2 K w0 (comp0_turn turn) ?_ ?_
  · rintro e s' ⟨pins',σ',H1,s3,I1,hcx⟩
    have I1X:=comp_back I2 f2 I1
    obtain ⟨ea,C,T,H',rfl,os,bare,un,hok,tr,ne,nT,hea,hT,hq⟩:=hcx
    have IX:Inv X pins σ H' s':=I1X.call' (ch:=[]) os un hok bare fun b z=>nomatch z
    have oa:=I1X.freshX L.ex ne
    have oT:=I1X.freshX L.ex nT
    obtain ⟨m,⟨oC,es,ep,hoC,rC⟩,_⟩:=id I1.loc
    have hoC:s3.heap.get? (s2.heap.objs.size + 1) = some oC:=hoC
    have hHC:H1 (s2.heap.objs.size + 1) = none:=I1.free
    have nfr:s2.heap.objs.size + 1 ∉ frs X.stack:=fun z=>by
      rcases List.mem_cons.mp (I2.stkSub _ z) with q | q
      · exact absurd I2.lt (by rw [← q]; exact Nat.not_lt.mpr (Nat.le_succ _))
      · exact I2.nofs (Nat.le_succ _) q
    have hC1:s'.heap.get? (s2.heap.objs.size + 1) = some oC:=un.keep _ _ hoC hHC nfr (by simp)
    have hC2:H' (s2.heap.objs.size + 1) = none:=un.free _ _ hoC hHC (by simp)
    have nCe:s2.heap.objs.size + 1 ≠ ea:=fun z=>by rw [z,ne] at hoC; cases hoC
    have nCT:s2.heap.objs.size + 1 ≠ T:=fun z=>by rw [z,nT] at hoC; cases hoC
    show wpAny _ _ (noteFrame (.ref ea) X.env) _ _ s'
    refine fly_note_any (base:=X.base) (outer:=X.outer) (L:=X.env.locals) (by rw [I.ok.frames,L.stk]) (by rw [← L.stk]; exact IX.stack) L.fr tr fun h1 T1 hT1 tr1 hk1=>?_
    rw [← L.stk] at hk1
    have IX1:=IX.keptX hea hT oa oT hk1
    have hh:H' T1 = none ∧ Own X pins T1 ∧ T1 ≠ s2.heap.objs.size + 1:=by
      rcases hT1 with z | z
      · rw [z]; exact ⟨hT,oT,Ne.symm nCT⟩
      · exact ⟨IX.freeX z,IX.freshX L.ex z,fun q=>by rw [q,hC1] at z; cases z⟩
    refine ⟨m,⟨oC,es,ep,hk1.keep _ _ hC1 nfr nCe nCT,rC⟩,fun h2 sb cenv hce=>?_⟩
    have IX2:=IX1.letGo (I2.fpOk (Nat.le_succ _) hC2) sb
    refine fly_pass (base:=X.base) (outer:=X.stack) (tr1.sameBut sb (Ne.symm nCe) hh.2.2) IX2.stack cenv fun h3 fl' tr3 hk3=>?_
    exact leave_any L (IX2.keptX hea hh.1 oa hh.2.1 hk3) tr3 hea hh.1 oa hh.2.1 (hE _ _ _ hq)
  · intro D C s5 ys H5 hD f I5 ⟨m,hn⟩ fC
    exact ⟨m,hn,fun h' sb=>⟨.ref D,_,I5.letGo fC sb,rfl,f D hD⟩⟩
end
end L2
set_option Elab.async false
set_option linter.all false
set_option maxRecDepth 100000
namespace L2
open PySem PySem.Spec PyProof.Rows PySem.Builtin PySem.Builtin.Str
section
variable {X:Cx}
theorem mt_startswith:MtR X "str.startswith" (fun x xs H Q=>∃ i j,x = .str i ∧ xs = [.str j] ∧ Q (.bl (PySem.Txt.startswith i j)) H):=by
  intro pins s σ H x vs v us Q I rx rv h
  obtain ⟨i,j,rfl,rfl,q⟩:=h
  obtain ⟨t,rfl⟩:=rx
  obtain ⟨u,rfl,⟨t',rfl⟩⟩:=rv.one
  exact SC.startswith ⟨.bl _,H,I,rfl,q⟩
theorem mt_strip:MtR X "str.strip" (fun x xs H Q=>∃ i j,x = .str i ∧ xs = [.str j] ∧ i.length ≤ sizeLine ∧ Q (.str (PySem.Txt.stripChars i j)) H):=by
  intro pins s σ H x vs v us Q I rx rv h
  obtain ⟨i,j,rfl,rfl,hz,q⟩:=h
  obtain ⟨t,rfl⟩:=rx
  obtain ⟨u,rfl,⟨t',rfl⟩⟩:=rv.one
  exact SC.stripChars (fun t'' k=>⟨.str _,H,I.tok k,⟨t'',rfl⟩,q⟩) hz
theorem vals_strs:∀ (l:List (Str × Tok)),Vals ((l.map (·.1)).map V.str) (strValues l)
  | []=>.nil
  | (x,t) :: r=>.cons ⟨t,rfl⟩ (vals_strs r)
theorem strs_of_vals:∀ {xs:List Str} {us:List Value},Vals (xs.map V.str) us → ∃ l:List (Str × Tok),us = strValues l ∧ l.map (·.1) = xs
  | [],_,.nil=>⟨[],rfl,rfl⟩
  | x :: xs,_,.cons ⟨t,rfl⟩ r =>
    let ⟨l,e1,e2⟩:=strs_of_vals r
    ⟨(x,t) :: l,by rw [e1]; rfl,by rw [← e2]; rfl⟩
theorem mt_split:MtR X "str.split" (fun x xs H Q=>∃ i j,x = .str i ∧ xs = [.str j] ∧ (j.length == 0) = false ∧ i.length ≤ sizeLine ∧ (PySem.Txt.split i j).length ≤ sizeLine ∧ (partsBetween i (occurrences i j 0 i.length (i.length + 1)) j.length).length ≤ sizeLine ∧
    ∀ l,H l = none → Q (.ref l) (upd H l (.lst ((PySem.Txt.split i j).map V.str)))):=by
  intro pins s σ H x vs v us Q I rx rv h
  obtain ⟨x,y,rfl,rfl,hy,hsz,hz2,hsz2,q⟩:=h
  obtain ⟨t,rfl⟩:=rx
  obtain ⟨u,rfl,⟨u,rfl⟩⟩:=rv.one
  have fin:∀ (l:List (Str × Tok)) (tk:Nat),l.map (·.1) = PySem.Txt.split x y → EP X pins σ Q (.ref s.heap.objs.size) { s with heap:=s.heap.push { cls:=.type "list", data:=.seq (strValues l).toArray },toks:=tk }:=fun l tk e =>
    ⟨.ref _,_,I.lnew (ys:=(PySem.Txt.split x y).map V.str) (by rw [← e]; exact vals_strs l) (by rw [List.length_map]; exact hz2),rfl,q _ I.fresh⟩
  cases h1:(decide (x.length < y.length) || decide (strKind x < strKind y))
  · cases hf:(occurrences x y 0 x.length (x.length + 1)).isEmpty
    · refine call_meets F.slot_str_split (typeIs_str _ _ _) F.entry_str_split (F.args_str_split_2 _ _) (meets_str_split_sep x y t u h1 hy hf hsz hsz2) ?_
      show wants _ _ _ { s with toks:=_,heap:=s.heap.push { cls:=.type "list", data:=.seq (strsFrom s.toks (partsBetween x (occurrences x y 0 x.length (x.length + 1)) y.length)).toArray } }
      rw [strsFrom_eq]
      exact fin (numbered s.toks _) _ ((numbered_texts _ _).trans ((if_neg (ne_true_of_eq_false h1)).trans (if_neg (ne_true_of_eq_false hf))).symm)
    · exact call_meets F.slot_str_split (typeIs_str _ _ _) F.entry_str_split (F.args_str_split_2 _ _) (meets_str_split_not_found x y t u h1 hy hf) (fin [(x,t)] _ ((if_neg (ne_true_of_eq_false h1)).trans (if_pos hf)).symm)
  · exact call_meets F.slot_str_split (typeIs_str _ _ _) F.entry_str_split (F.args_str_split_2 _ _) (meets_str_split_cannot_occur x y t u h1) (fin [(x,t)] _ (if_pos h1).symm)
def part3 (x y:Str):Str × Str × Str:=match occurrences x y 0 x.length 1 with
  | i :: _=>(strSub x 0 i,y,strSub x (i + y.length) x.length)
  | []=>(x,Str.empty,Str.empty)
theorem mt_partition:MtR X "str.partition" (fun x xs H Q=>∃ i j,x = .str i ∧ xs = [.str j] ∧ (j.length == 0) = false ∧ i.length ≤ sizeLine ∧ ∀ l,H l = none → Q (.ref l) (upd H l (.tup [.str (part3 i j).1,.str (part3 i j).2.1,.str (part3 i j).2.2]))):=by
  intro pins s σ H x vs v us Q I rx rv h
  obtain ⟨x,y,rfl,rfl,hy,hz,q⟩:=h
  obtain ⟨t,rfl⟩:=rx
  obtain ⟨u,rfl,⟨u,rfl⟩⟩:=rv.one
  refine call_meets F.slot_str_partition (typeIs_str _ _ _) F.entry_str_partition (F.args_str_partition_2 _ _) (meets_str_partition x y t u hy hz) ?_
  unfold part3 at q
  cases ho:occurrences x y 0 x.length 1 with
  | nil =>
    rw [ho] at q
    exact ⟨.ref _,_,I.laid (a:=s.heap.objs.size) (o:=.tup [.str x,.str Str.empty,.str Str.empty]) (fun _ _ z=>Heap.get?_push_of_some _ z) (Nat.le_refl _) ⟨by show 3 ≤ sizeLine; decide,_,.cons ⟨t,rfl⟩ (.cons ⟨_,rfl⟩ (.cons ⟨_,rfl⟩ .nil)),IsTup.new s.heap _⟩,rfl,q _ I.fresh⟩
  | cons i r =>
    rw [ho] at q
    exact ⟨.ref _,_,I.laid (a:=s.heap.objs.size) (o:=.tup [.str (strSub x 0 i),.str y,.str (strSub x (i + y.length) x.length)]) (fun _ _ z=>Heap.get?_push_of_some _ z) (Nat.le_refl _) ⟨by show 3 ≤ sizeLine; decide,_,.cons ⟨_,rfl⟩ (.cons ⟨u,rfl⟩ (.cons ⟨_,rfl⟩ .nil)),IsTup.new s.heap _⟩,rfl,q _ I.fresh⟩
theorem mt_join:MtR X "str.join" (fun x xs H Q=>∃ i a ts,x = .str i ∧ xs = [.ref a] ∧ SqL X.K H a (ts.map V.str) ∧ JoinOk i ts = true ∧ Q (.str (PySem.Txt.join i ts)) H):=by
  intro pins s σ H x vs v us Q I rx rv h
  obtain ⟨i,a,ts,rfl,rfl,ha,hok,q⟩:=h
  obtain ⟨t,rfl⟩:=rx
  obtain ⟨u,rfl,ru⟩:=rv.one
  cases ru
  obtain ⟨its,r,pl,hz⟩:=I.list ha
  obtain ⟨l,rfl,e⟩:=strs_of_vals r
  exact SC.join pl.isList e hok (fun t' k=>⟨.str _,H,I.tok k,⟨t',rfl⟩,q⟩)
def Itx (x:Str):It:=⟨fun i _=>i < x.cps.size,fun i H v H'=>H' = H ∧ ∃ c,x.cps[i]? = some c ∧ v = .str ⟨#[c]⟩,fun i _=>i = x.cps.size⟩
theorem turn_str {P:Program} {w:World} {K:PySem.W.Frag} {tg:Expr} {n:String} {x:Str} {t:Tok} (it:Addr) (hn:["enumerate", "zip", "dict_itemiterator", "dict_reverseitemiterator", "odict_iterator", "itertools.zip_longest", "itertools.pairwise"].contains n = false)
    (W:∀ A':Around,A'.handled = none → Walks P w A' it [it] [it] x.cps.size (SignAt x) (fun i h=>h.IsStrIter it n x t i)) (hself:∀ (A:Around) (i:Nat) (s:Shared) (Q:Value → Shared → Prop) (E:Value → Shared → Prop),s.heap.IsStrIter it n x t i → Q (.ref it) s → wpAny (model P w) A (pyIter (.ref it)) Q E s) :
    Turn P w K tg (Itx x) [it] it (fun i h=>h.IsStrIter it n x t i) where
  mem:=by simp
  obj:=fun i h st b hb=>by
    have e:b = it:=by simpa using hb
    subst e
    obtain ⟨o,e,c,d⟩:=st
    exact ⟨o,e,fun v z=>by rw [d] at z; cases z⟩
  keep:=fun i h h' st k=>by
    obtain ⟨o,e,r⟩:=st
    exact ⟨o,k it (by simp) o e,r⟩
  item:=by
    intro X hP hw hK hc i pins s σ H E I hf st hg
    subst hP hw hK
    obtain ⟨f0,f1,f2,f3,f4,f5⟩:=hf it (by simp)
    refine (W X.A (I.ok.hd hc)).item i s _ _ hg st fun v h' tk hv st' kk=>?_
    obtain ⟨c,u,hc',rfl⟩:=hv
    have I1:Inv X pins σ H { s with heap:=h',toks:=tk }:=I.turned (fun b o hb e=>kk b o (by simpa using hb) e) f0 f1 f3 f4 f5
    obtain ⟨o,e,cc,d⟩:=id st'
    exact ⟨_,rfl,go_of (s:={ s with heap:=h',toks:=tk }) e cc d hn ⟨.str ⟨#[c]⟩,H,I1,⟨u,rfl⟩,⟨rfl,c,hc',rfl⟩,st',fun b hb=>(hf b hb).1⟩⟩
  done:=by
    intro X hP hw hK hc i pins s σ H E I hf st hg
    subst hP hw hK
    obtain ⟨f0,f1,f2,f3,f4,f5⟩:=hf it (by simp)
    have hg:i = x.cps.size:=hg
    subst hg
    exact (W X.A (I.ok.hd hc)).done s _ _ st fun h' tk kk=>⟨rfl,I.turned (t':=tk) (fun b o hb e=>kk b o (by simpa using hb) e) f0 f1 f3 f4 f5⟩
  self:=hself
def iStr (tl:TE):TI:=fun σ H R=>tl σ H fun v H1=>∃ x,v = .str x ∧ R (Itx x) H1
theorem pi_str {tg l:Expr} {tl:TE} (hl:PE X l tl):PI X tg l (iStr tl):=by
  intro pins s σ H R I h
  refine thn (hl pins s σ H _ I h) fun v s1 ⟨x,H1,I1,r1,q1⟩=>?_
  obtain ⟨x,e,q⟩:=q1
  subst e
  obtain ⟨t,rfl⟩:=r1
  have fp:∀ b ∈ [s1.heap.objs.size],FpOk X pins H1 b:=fun b hb=>by
    have e:b = s1.heap.objs.size:=by simpa using hb
    subst e
    exact I1.fpOk (Nat.le_refl _) (I1.hok.fresh (Nat.le_refl _))
  cases ha:x.cps.all (· < 128)
  · refine wpAny_pyIter_wide ha ⟨s1.heap.objs.size,[s1.heap.objs.size],fun i h=>h.IsStrIter s1.heap.objs.size "str_iterator" x t i,Itx x,H1,rfl,I1.kept (t':=s1.toks) fun b o e=>Heap.get?_push_of_some _ e,turn_str _ (by decide) (fun A' hA=>Walks.strWide hA _ x t) (fun _ _ _ _ _ st h=>wpAny_pyIter_striter_wide st h),⟨_,Heap.get?_push_size _ rfl,rfl,rfl⟩,fp,q⟩
  · refine wpAny_pyIter_ascii ha ⟨s1.heap.objs.size,[s1.heap.objs.size],fun i h=>h.IsStrIter s1.heap.objs.size "str_ascii_iterator" x t i,Itx x,H1,rfl,I1.kept (t':=s1.toks) fun b o e=>Heap.get?_push_of_some _ e,turn_str _ (by decide) (fun A' hA=>Walks.strAscii hA _ x t) (fun _ _ _ _ _ st h=>wpAny_pyIter_striter_ascii st h),⟨_,Heap.get?_push_size _ rfl,rfl,rfl⟩,fp,q⟩
theorem comp_str {x:Str} {B:V → Hp → (V → Hp → Prop) → Prop} {F:List V → Hp → Prop} {H:Hp} (Pv:Nat → List V → Hp → Prop) (h0:Pv 0 [] H) (hz:x.cps.size ≤ sizeLine)
    (hl:∀ i ys H,i ≤ x.cps.size → Pv i ys H → ys.length = i)
    (hs:∀ i c ys H,x.cps[i]? = some c → Pv i ys H → B (.str ⟨#[c]⟩) H fun y H4=>Pv (i + 1) (ys ++ [y]) H4)
    (hd:∀ ys H,Pv x.cps.size ys H → F ys H) :
    ∃ W:Nat → Nat → List V → Hp → Prop,(∃ m,W 0 m [] H) ∧ ∀ i m ys H,W i m ys H →
      ((Itx x).stop i H ∧ ys.length ≤ sizeLine ∧ F ys H) ∨
      ((Itx x).go i H ∧ ys.length ≤ sizeLine ∧ ∃ N1:V → Hp → Prop,(∀ y H',N1 y H' → ∃ m',m' < m ∧ W (i + 1) m' (ys ++ [y]) H') ∧ ∀ x' H',(Itx x).yld i H x' H' → B x' H' N1):=by
  refine ⟨fun i m ys H=>m = x.cps.size - i ∧ i ≤ x.cps.size ∧ Pv i ys H,⟨x.cps.size,by simp,Nat.zero_le _,h0⟩,?_⟩
  rintro i m ys H ⟨rfl,hi,p⟩
  have el:=hl i ys H hi p
  have hzz:ys.length ≤ sizeLine:=by rw [el]; exact Nat.le_trans hi hz
  by_cases hlt:i < x.cps.size
  · refine .inr ⟨hlt,hzz,fun y H4=>Pv (i + 1) (ys ++ [y]) H4,fun y H' q4=>⟨x.cps.size - (i + 1),by omega,rfl,hlt,q4⟩,fun v H' y=>?_⟩
    obtain ⟨e,c,hc,rfl⟩:=y
    subst e
    exact hs i c ys _ hc p
  · have e:i = x.cps.size:=by omega
    subst e
    exact .inl ⟨rfl,hzz,hd ys H p⟩
theorem call_int_text:CallR X (.type "int") (fun xs H Q=>∃ x n,xs = [.str x] ∧ PySem.intText? x = some n ∧ x.length ≤ 640 ∧ Q (.int n) H):=by
  intro pins s σ H xs us Q I r h
  obtain ⟨x,n,rfl,hn,hl,q⟩:=h
  obtain ⟨u,rfl,ru⟩:=vals1 r
  obtain ⟨t,rfl⟩:=ru
  exact PySem.W.KIN.call_text hn hl ⟨.int n,H,I.tok _,⟨_,rfl⟩,q⟩
def tFstr (m:Str) (ta tb:TE):TE:=fun σ H Q=>ta σ H fun x H1=>∃ i,x = .int i ∧ i.natAbs.log2 < 1920 ∧ (Str.empty ++ (toString i:Str)).length ≤ sizeLine ∧ (Str.empty ++ (toString i:Str) ++ m).length ≤ sizeLine ∧
  tb σ H1 fun y H2=>∃ j,y = .int j ∧ j.natAbs.log2 < 1920 ∧ (Str.empty ++ (toString i:Str) ++ m ++ (toString j:Str)).length ≤ sizeLine ∧ Q (.str (Str.empty ++ (toString i:Str) ++ m ++ (toString j:Str))) H2
theorem pe_fstr {a b:Expr} {ta tb:TE} {m:Str} {k:Nat} {p1 p2 p3 pos:Pos} (ha:PE X a ta) (hb:PE X b tb):PE X (.JoinedStr [.FormattedValue a (-1) none p1,.Constant (.str m) k p2,.FormattedValue b (-1) none p3] pos) (tFstr m ta tb):=by
  intro pins s σ H Q I h
  refine PyProof.Rows.JoinedStr_many (PyProof.Rows.joinParts_cons (PyProof.Rows.FormattedValue_plain (thn (ha pins s σ H _ I h) fun v s1 ⟨x,H1,I1,r1,i,e1,hi,z1,z2,q1⟩=>?_)))
  subst e1
  obtain ⟨t1,rfl⟩:=r1
  refine wpAny_formatField_int hi ⟨z1,?_⟩
  refine PyProof.Rows.joinParts_cons (Calls.Constant_str ⟨z2,?_⟩)
  refine PyProof.Rows.joinParts_cons (PyProof.Rows.FormattedValue_plain (thn (hb pins _ σ H1 _ (I1.tok _) q1) fun v s2 ⟨y,H2,I2,r2,j,e2,hj,z3,q2⟩=>?_))
  subst e2
  obtain ⟨t2,rfl⟩:=r2
  refine wpAny_formatField_int hj ⟨z3,?_⟩
  exact PyProof.Rows.joinParts_nil ⟨.str _,H2,I2.tok _,⟨_,rfl⟩,q2⟩ z3
theorem sl_str:SlR X (fun x lo hi H Q=>∃ i,x = .str i ∧ i.length ≤ sizeLine ∧ ∀ y:Str,y.length ≤ i.length → Q (.str y) H):=by
  intro pins s σ H x v vl vu lo hi sl Q I rx hs pl pu h
  obtain ⟨x,rfl,hz,q⟩:=h
  obtain ⟨t,rfl⟩:=rx
  refine ⟨"str", _,F.slot_str_getitem.lookup,typeIs_str _ _ _,?_⟩
  obtain ⟨l,el,e1⟩:∃ l:Option (Int × Tok),vl = partValue l ∧ l.map (·.1) = lo:=by
    cases pl with
    | none=>exact ⟨none,rfl,rfl⟩
    | int i t=>exact ⟨some (i,t),rfl,rfl⟩
  obtain ⟨u,eu,e2⟩:∃ u:Option (Int × Tok),vu = partValue u ∧ u.map (·.1) = hi:=by
    cases pu with
    | none=>exact ⟨none,rfl,rfl⟩
    | int i t=>exact ⟨some (i,t),rfl,rfl⟩
  subst el eu
  have hlen:((slicePicked x l u none).filterMap (x.cps[·]?)).toArray.size ≤ x.length:=by
    rw [List.size_toArray]
    exact Nat.le_trans (List.length_filterMap_le _ _) (sliceIndices_le _ _ _)
  refine wpAny_getItem_str_slice (l:=l) (u:=u) (st:=none) hs rfl (post_val_or_made (fun _=>Nat.le_trans hlen hz) fun t' k=>?_)
  by_cases hc:((((none:Option (Int × Tok)).map (·.1)).getD 1 == 1 && (slicePicked x l u none).length == x.length) = true)
  · rw [if_pos hc]
    exact ⟨.str x,H,I.tok k,⟨t',rfl⟩,q x (Nat.le_refl _)⟩
  · rw [if_neg hc]
    exact ⟨.str _,H,I.tok k,⟨t',rfl⟩,q _ hlen⟩
theorem size_rep (x:Array Nat):∀ (n:Nat) (acc:Array Nat),((List.replicate n x).foldl (· ++ ·) acc).size = acc.size + n * x.size
  | 0,acc=>by simp
  | n + 1,acc=>by
    rw [List.replicate_succ,List.foldl_cons,size_rep x n,Array.size_append,Nat.succ_mul]
    omega
theorem op_mulS:OpR X (binaryOp .Mult) (fun x y H Q=>∃ i n,x = .str i ∧ y = .int n ∧ (1 < n ∧ n ≤ 10000) ∧ (1 ≤ i.length ∧ i.length ≤ 100) ∧ Q (.str ⟨(List.replicate n.toNat i.cps).foldl (· ++ ·) #[]⟩) H):=by
  intro pins s σ H x y v u Q I rx ry h
  obtain ⟨i,n,rfl,rfl,hn,hi,q⟩:=h
  obtain ⟨t,rfl⟩:=rx
  obtain ⟨t',rfl⟩:=ry
  have p63:(2:Int) ^ 63 = 9223372036854775808:=by decide
  have hm:i.length * n.toNat ≤ 1000000:=Nat.le_trans (Nat.mul_le_mul hi.2 (show n.toNat ≤ 10000 by omega)) (by decide)
  have hsl:1000000 ≤ sizeLine:=by decide
  refine PySem.P.mul_str ?_ (fun _ _=>?_) (fun _ _=>?_) ?_
  · rw [decide_eq_false (show ¬ n < -(2 ^ 63:Int) by rw [p63]; omega),decide_eq_false (show ¬ n ≥ (2 ^ 63:Int) by rw [p63]; omega)]; rfl
  · have:(922337203685477:Int) ≤ (2 ^ 63 - 1) / n:=Int.le_ediv_of_mul_le (by omega) (by rw [p63]; omega)
    omega
  · unfold tooLong
    exact decide_eq_false (by omega)
  · rw [if_neg (show ¬ n < 1 by omega),if_neg (show ¬ ((n == 1 || i.length == 0) = true) by simp; omega)]
    refine ⟨?_,⟨.str _,H,I.tok _,⟨_,rfl⟩,q⟩⟩
    show ((List.replicate n.toNat i.cps).foldl (· ++ ·) #[]).size ≤ sizeLine
    rw [size_rep]
    have:i.cps.size = i.length:=rfl
    rw [this,Nat.mul_comm]
    simp
    omega
end
end L2
set_option Elab.async false
set_option linter.all false
set_option maxRecDepth 100000
namespace L2
open PySem PySem.Spec PyProof.Rows
theorem entry_unchain:entryFor table "proto.unchain" = some Builtin.«proto.unchain»:=entryFor_of_fast (by kernel_rfl)
def NoCtx (h:Heap) (ea:Addr):Prop:=∃ o vs,h.get? ea = some o ∧ o.data = .fields vs ∧ vs[2]? = some .none
section
variable {prog:Program} {w:World} {A:Around} {E:Value → Shared → Prop} {s:Shared}
theorem pyNext_list_endH {it l ea:Addr} {i:Nat} {items} {Q:Option Value → Shared → Prop} (hh:A.handled = some (.ref ea)) (hn:NoCtx s.heap ea) (hne:ea ≠ it)
    (hit:s.heap.IsListIter it l i) (hl:s.heap.IsList l items) (hx:items[i]? = none)
    (hQ:∀ h',Heap.ExtBut it s.heap h' → Q none { s with heap:=h' }):wpAny (model prog w) A (pyNext (.ref it)) Q E s:=by
  obtain ⟨oe,vs,hoe,hde,h2⟩:=hn
  obtain ⟨o,ho,hc,hd⟩:=id hit
  obtain ⟨ol,hol,_,nl,hdl⟩:=hl
  unfold pyNext
  refine wpAny_bind (wpAny_attempt (wpAny_callSpecial?_slot (name:=Str.ofString "__next__") hit.typeIs slot_listiter_next
    (wpAny_call_entry slot_listiter_next hit.typeIs entry_listiter_next ?_ (args_listiter_next _))))
  show wpAny _ _ (field (.ref it) 0 >>= _) _ _ s
  refine wpAny_bind (wpAny_field ho hd (x:=.ref l) rfl ?_)
  show wpAny _ _ (if (Value.ref l == Value.none) = true then _ else _) _ _ s
  rw [if_neg (show ¬ ((Value.ref l == Value.none) = true) from Bool.false_ne_true)]
  show wpAny _ _ (field (.ref it) 1 >>= _) _ _ s
  refine wpAny_bind (wpAny_field ho hd (x:=.int i 0) rfl ?_)
  show wpAny _ _ (seqItems? (.ref l) >>= _) _ _ s
  refine wpAny_bind (wpAny_seqItems hol hdl ?_)
  simp only [Int.toNat_natCast,hx]
  refine wpAny_bind (wpAny_rule (wpAny_bind (wpAny_setField ho hd (by simp) ?_)))
  show wpAny _ _ (newExc (.type "StopIteration") [] >>= _) _ _ _
  refine wpAny_bind ?_
  simp only [newExc,newTuple]
  refine wpAny_bind (wpAny_newObj_type ?_ (by size_fits))
  refine wpAny_bind (m:=firstArgMember _ _) (wpAny_of_eq (a:=Value.none) (by first | rfl | (simp only [firstArgMember]; rfl)) ?_)
  refine wpAny_newObj_type ?_ (by size_fits)
  simp only [raiseNew]
  refine wpAny_bind (wpAny_handled ?_)
  rw [show A.in1.handled = some (.ref ea) from hh]
  generalize hN:(((s.heap.update it (Obj.mapFields fun x=>x.setIfInBounds 0 Value.none)).push { cls:=Value.type "tuple", data:=Data.seq #[] }):Heap) = hp
  have ext:Heap.ExtBut it s.heap hp:=by rw [← hN]; exact ((Heap.SameBut.update ..).extBut.push _)
  have he1:hp.get? ea = some oe:=ext ea oe hne hoe
  have hlt:ea ≠ hp.objs.size:=Nat.ne_of_lt (Heap.lt_size he1)
  show wpAny _ _ (if (Value.ref ea != Value.ref hp.objs.size) = true then _ else _) _ _ _
  rw [if_pos (show (Value.ref ea != Value.ref hp.objs.size) = true by simp [hlt])]
  refine wpAny_bind (wpAny_holding (runValue_entry entry_unchain ?_))
  unfold Builtin.«proto.unchain»
  show wpAny _ _ (field (.ref ea) 2 >>= _) _ _ _
  refine wpAny_bind (wpAny_field (Heap.get?_push_of_some _ he1) hde h2 ?_)
  rw [if_pos (show (Value.none == Value.none) = true from rfl)]
  refine wpAny_pure ⟨_,rfl,?_⟩
  generalize hO:({ cls:=Value.type "StopIteration", data:=Data.fields (#[Value.ref (s.heap.update it (Obj.mapFields fun x=>x.setIfInBounds 0 Value.none)).objs.size,Value.none,Value.none,Value.none,Value.bool false,Value.none] ++ ownMembersOf (Value.type "StopIteration") []) }:Obj) = oN
  have hnf:oN.isFreed = false:=by rw [← hO]; rfl
  have hNew:=Heap.get?_push_size hp hnf
  have hcN:oN.cls = .type "StopIteration" := by rw [← hO]
  refine wpAny_bind ?_
  show wpAny _ _ (setField (.ref hp.objs.size) 2 (.ref ea)) _ _ _
  refine wpAny_setField hNew (by rw [← hO]) (by simp; omega) ?_
  refine wpAny_throw ?_
  refine wpAny_bind (wpAny_isInstance (T := "StopIteration") (b:=true) ⟨_,Heap.get?_update_self _ hNew (Obj.isFreed_of_fields (Obj.data_mapFields (by rw [← hO]) _)),(Obj.cls_mapFields _ _).trans hcN⟩ isSubtype_stop ?_)
  refine wpAny_pure (hQ _ fun b o hb e=>?_)
  have hb1:=ext b o hb e
  rw [Heap.get?_update_other _ _ (Nat.ne_of_gt (Heap.lt_size hb1))]
  exact Heap.get?_push_of_some _ hb1
theorem Walks.listH {ea:Addr} (hh:A.handled = some (.ref ea)) (I ax:Addr) (hne:ax ≠ I) (hea:ea ≠ I) (items:Array Value) :
    Walks prog w A I [I,ax,ea] [I] items.size (fun i v=>items[i]? = some v) (fun i h=>(h.IsListIter I ax i ∧ h.IsList ax items) ∧ NoCtx h ea) where
  sub:=fun b hb=>by simp at hb; simp [hb]
  frame:=fun _ _ _ st hk=>⟨⟨st.1.1.at fun o e=>hk I (by simp) o e,st.1.2.at fun o e=>hk ax (by simp) o e⟩,by
    obtain ⟨o,vs,e,r⟩:=st.2
    exact ⟨o,vs,hk ea (by simp) o e,r⟩⟩
  item:=fun i s Q E hi st hQ=>by
    refine wpAny_pyNext_list_item st.1.1 st.1.2 (x:=items[i]) (by simp [hi]) fun h' hit' hs'=>?_
    refine hQ _ h' s.toks (by simp [hi]) ⟨⟨hit',st.1.2.extBut hs'.extBut hne⟩,?_⟩ fun b o hb e=>hs'.extBut b o (fun h=>hb (by simp [h])) e
    obtain ⟨o,vs,e,r⟩:=st.2
    exact ⟨o,vs,hs'.extBut ea o hea e,r⟩
  done:=fun s Q E st hQ=>pyNext_list_endH hh st.2 hea st.1.1 st.1.2 (by simp) fun h' he'=>hQ h' s.toks fun b o hb e=>he' b o (fun h=>hb (by simp [h])) e
  self:=fun _ _ _ _ st hQ=>wpAny_pyIter_listiter st.1.1 hQ
end
section
variable {X:Cx}
theorem call_anyH {e:Value}:CallR (X.inExc e) (.builtin "any") (fun xs H Q=>∃ (p:Addr) (bs:List Bool) (ea C:Addr),xs = [.ref p] ∧ e = .ref ea ∧ H ea = some (exo C ea) ∧ SqL X.K H p (bs.map V.bl) ∧ Q (.bl (bs.any id)) H):=by
  intro pins s σ H xs us Q I r h
  obtain ⟨p,bs,ea,C,e1,e2,hex,hq,q⟩:=h
  subst e1
  subst e2
  obtain ⟨u,rfl,ru⟩:=vals1 r
  cases ru
  obtain ⟨its,rv,pl,hz⟩:=I.list hq
  have hl:s.heap.IsList p its.toArray:=pl.isList
  have hlt:p < s.heap.objs.size:=by obtain ⟨o,ho,_⟩:=hl; exact Heap.lt_size ho
  have hlen:bs.length = its.length:=by have:=rv.length; rwa [List.length_map] at this
  obtain ⟨⟨oe,vs,he,_,_,hd,h2⟩,_⟩:=(show ObjOk X.prog X.w H s.heap ea (exo C ea) from I.hok ea _ hex)
  refine call_any_walk (wpAny_pyIter_list hl ?_)
  refine ⟨s.heap.objs.size,_,_,_,_,_,fun i=>bs.getD i true,rfl,Walks.listH (ea:=ea) rfl _ p (Nat.ne_of_lt hlt) (Nat.ne_of_lt (Heap.lt_size he)) its.toArray,⟨⟨⟨_,Heap.get?_push_size _ rfl,rfl,rfl⟩,hl.push _⟩,⟨oe,vs,Heap.get?_push_of_some _ he,hd,h2⟩⟩,?_,fun h' tk hk=>?_⟩
  · intro i v s' Q' E' hP hQ
    have hv:its[i]? = some v:=by simpa using hP
    have hib:i < its.length:=(List.getElem?_eq_some_iff.mp hv).1
    have hb:(bs.map V.bl)[i]? = some (V.bl (bs[i]'(by omega))):=by rw [List.getElem?_map,List.getElem?_eq_getElem (by omega)]; rfl
    obtain ⟨v',hv',rb⟩:=rv.get hb
    rw [hv] at hv'
    cases hv'
    cases rb
    refine wpAny_truthy_bool ?_
    have e:bs.getD i true = bs[i]'(by omega):=by rw [List.getD_eq_getElem?_getD,List.getElem?_eq_getElem (by omega)]; rfl
    have hQ':Q' (bs.getD i true) s':=hQ
    rw [e] at hQ'
    exact hQ'
  · have I2:Inv (X.inExc (.ref ea)) pins σ H { s with heap:=h',toks:=tk }:=I.kept fun b o e=>hk b o (by
      intro z
      have z':b = s.heap.objs.size:=by simpa using z
      rw [z'] at e
      exact absurd (Heap.lt_size e) (Nat.lt_irrefl _)) (Heap.get?_push_of_some _ e)
    refine ⟨.bl (bs.any id),H,I2,?_,q⟩
    show Value.bool _ = Value.bool _
    congr 1
    have e1:its.toArray.size = bs.length:=by rw [List.size_toArray,hlen]
    rw [e1]
    apply Bool.eq_iff_iff.mpr
    simp only [List.any_eq_true,List.mem_range,id]
    constructor
    · rintro ⟨n,hn,hh⟩
      rw [List.getD_eq_getElem?_getD,List.getElem?_eq_getElem hn] at hh
      exact ⟨_,List.getElem_mem hn,hh⟩
    · rintro ⟨x,hx,hh⟩
      obtain ⟨n,hn,rfl⟩:=List.mem_iff_getElem.mp hx
      refine ⟨n,hn,?_⟩
      rw [List.getD_eq_getElem?_getD,List.getElem?_eq_getElem hn]
      exact hh
end
end L2
set_option Elab.async false
set_option linter.all false
set_option maxRecDepth 100000
namespace B
theorem ValueError:PySem.bootBuiltins "ValueError" = some (.type "ValueError"):=by decide +kernel
theorem abs:PySem.bootBuiltins "abs" = some (.builtin "abs"):=by decide +kernel
theorem all:PySem.bootBuiltins "all" = some (.builtin "all"):=by decide +kernel
theorem any:PySem.bootBuiltins "any" = some (.builtin "any"):=by decide +kernel
theorem bool:PySem.bootBuiltins "bool" = some (.type "bool"):=by decide +kernel
theorem enumerate:PySem.bootBuiltins "enumerate" = some (.type "enumerate"):=by decide +kernel
theorem int:PySem.bootBuiltins "int" = some (.type "int"):=by decide +kernel
theorem isinstance:PySem.bootBuiltins "isinstance" = some (.builtin "isinstance"):=by decide +kernel
theorem len:PySem.bootBuiltins "len" = some (.builtin "len"):=by decide +kernel
theorem list:PySem.bootBuiltins "list" = some (.type "list"):=by decide +kernel
theorem range:PySem.bootBuiltins "range" = some (.type "range"):=by decide +kernel
theorem str:PySem.bootBuiltins "str" = some (.type "str"):=by decide +kernel
theorem sum:PySem.bootBuiltins "sum" = some (.builtin "sum"):=by decide +kernel
theorem tuple:PySem.bootBuiltins "tuple" = some (.type "tuple"):=by decide +kernel
end B
namespace W07
open PySem L2
def top (i:Nat):Stmt:=PySem.Challenge.pw_wheelrow_k07_written.main.body.getD i (.Pass ⟨0,0,0,0⟩)
abbrev xhy:Stmt:=top 10
theorem xfR:FnScope ["value"] ["value"] (defScope xhy):=⟨rfl,rfl,rfl,by decide +kernel,rfl,by decide +kernel,by decide +kernel⟩
abbrev xhx:Stmt:=top 11
theorem xfQ:FnScope ["value"] ["value"] (defScope xhx):=⟨rfl,rfl,rfl,by decide +kernel,rfl,by decide +kernel,by decide +kernel⟩
abbrev xix:Stmt:=top 12
theorem xhA:FnScope ["value", "turn"] ["value", "turn"] (defScope xix):=⟨rfl,rfl,rfl,by decide +kernel,rfl,by decide +kernel,by decide +kernel⟩
abbrev xb5:Stmt:=top 13
theorem xa1:FnScope ["value"] ["value"] (defScope xb5):=⟨rfl,rfl,rfl,by decide +kernel,rfl,by decide +kernel,by decide +kernel⟩
abbrev xfN:Stmt:=top 14
theorem xep:FnScope ["value"] ["value"] (defScope xfN):=⟨rfl,rfl,rfl,by decide +kernel,rfl,by decide +kernel,by decide +kernel⟩
theorem xa0:CompSc (defScope xfN) { kind:=PySem.ScopeKind.function,names:=[ (PySem.Str.ofString ".0", PySem.NameKind.local),(PySem.Str.ofString "pair", PySem.NameKind.local),(PySem.Str.ofString "is_rest_pair", PySem.NameKind.globalImplicit)],isGenerator:=false,isCoroutine:=false,more:=[]:PySem.Scope } ["value"] ["pair"] [none]:=⟨rfl,by decide +kernel,by decide +kernel,by decide +kernel,rfl,by decide +kernel,by decide +kernel⟩
abbrev xiy:Stmt:=top 19
theorem xhC:FnScope ["rests"] ["rests"] (defScope xiy):=⟨rfl,rfl,rfl,by decide +kernel,rfl,by decide +kernel,by decide +kernel⟩
theorem xdf:CompSc (defScope xiy) { kind:=PySem.ScopeKind.function,names:=[ (PySem.Str.ofString ".0", PySem.NameKind.local),(PySem.Str.ofString "rest", PySem.NameKind.local),(PySem.Str.ofString "turn", PySem.NameKind.local)],isGenerator:=false,isCoroutine:=false,more:=[]:PySem.Scope } ["rests"] ["rest", "turn"] [none,none]:=⟨rfl,by decide +kernel,by decide +kernel,by decide +kernel,rfl,by decide +kernel,by decide +kernel⟩
abbrev xi9:Stmt:=top 20
theorem xiN:FnScope ["text"] ["text"] (defScope xi9):=⟨rfl,rfl,rfl,by decide +kernel,rfl,by decide +kernel,by decide +kernel⟩
theorem xhB:CompSc (defScope xi9) { kind:=PySem.ScopeKind.function,names:=[ (PySem.Str.ofString ".0", PySem.NameKind.local),(PySem.Str.ofString "word", PySem.NameKind.local),(PySem.Str.ofString "read_pair", PySem.NameKind.globalImplicit)],isGenerator:=false,isCoroutine:=false,more:=[]:PySem.Scope } ["text"] ["word"] [none]:=⟨rfl,by decide +kernel,by decide +kernel,by decide +kernel,rfl,by decide +kernel,by decide +kernel⟩
abbrev xfO:Stmt:=top 21
theorem xeq:FnScope ["word", "halves", "pair"] ["word"] (defScope xfO):=⟨rfl,rfl,rfl,by decide +kernel,rfl,by decide +kernel,by decide +kernel⟩
abbrev xdb:Stmt:=top 22
theorem xb8:FnScope ["word"] ["word"] (defScope xdb):=⟨rfl,rfl,rfl,by decide +kernel,rfl,by decide +kernel,by decide +kernel⟩
abbrev xda:Stmt:=top 23
theorem xb7:FnScope ["word"] ["word"] (defScope xda):=⟨rfl,rfl,rfl,by decide +kernel,rfl,by decide +kernel,by decide +kernel⟩
theorem xap:CompSc (defScope xda) { kind:=PySem.ScopeKind.function,names:=[ (PySem.Str.ofString ".0", PySem.NameKind.local),(PySem.Str.ofString "sign", PySem.NameKind.local),(PySem.Str.ofString "FIGURES", PySem.NameKind.globalImplicit)],isGenerator:=false,isCoroutine:=false,more:=[]:PySem.Scope } ["word"] ["sign"] [none]:=⟨rfl,by decide +kernel,by decide +kernel,by decide +kernel,rfl,by decide +kernel,by decide +kernel⟩
abbrev xb3:Stmt:=top 25
theorem xaY:FnScope ["_law_script", "_law_k"] ["_law_script", "_law_k"] (defScope xb3):=⟨rfl,rfl,rfl,by decide +kernel,rfl,by decide +kernel,by decide +kernel⟩
abbrev xfM:Stmt:=top 26
theorem xeo:FnScope ["_law_cell", "_law_k", "_law_many", "_law_primes"] ["_law_cell", "_law_k", "_law_many"] (defScope xfM):=⟨rfl,rfl,rfl,by decide +kernel,rfl,by decide +kernel,by decide +kernel⟩
abbrev xen:Stmt:=top 27
theorem xde:FnScope ["_law_script", "_law_kind", "_law_found", "_law_k", "_law_turn"] ["_law_script"] (defScope xen):=⟨rfl,rfl,rfl,by decide +kernel,rfl,by decide +kernel,by decide +kernel⟩
abbrev xel:Stmt:=top 28
theorem xdc:FnScope ["_law_script", "_law_far", "_law_found", "_law_at"] ["_law_script"] (defScope xel):=⟨rfl,rfl,rfl,by decide +kernel,rfl,by decide +kernel,by decide +kernel⟩
theorem xar:CompSc (defScope xel) { kind:=PySem.ScopeKind.function,names:=[ (PySem.Str.ofString ".0", PySem.NameKind.local),(PySem.Str.ofString "_law_k", PySem.NameKind.local),(PySem.Str.ofString "_law_cell", PySem.NameKind.local),(PySem.Str.ofString "abs", PySem.NameKind.globalImplicit)],isGenerator:=false,isCoroutine:=false,more:=[]:PySem.Scope } ["_law_script", "_law_far", "_law_found", "_law_at"] ["_law_k", "_law_cell"] [none,none]:=⟨rfl,by decide +kernel,by decide +kernel,by decide +kernel,rfl,by decide +kernel,by decide +kernel⟩
theorem xas:CompSc (defScope xel) { kind:=PySem.ScopeKind.function,names:=[ (PySem.Str.ofString ".0", PySem.NameKind.local),(PySem.Str.ofString "_law_turn", PySem.NameKind.local),(PySem.Str.ofString "_law_far", PySem.NameKind.free)],isGenerator:=false,isCoroutine:=false,more:=[]:PySem.Scope } ["_law_script", "_law_far", "_law_found", "_law_at"] ["_law_far", "_law_turn"] [some 1,none]:=⟨rfl,by decide +kernel,by decide +kernel,by decide +kernel,rfl,by decide +kernel,by decide +kernel⟩
abbrev xc9:Stmt:=top 32
theorem xb6:FnScope ["_law_text"] ["_law_text"] (defScope xc9):=⟨rfl,rfl,rfl,by decide +kernel,rfl,by decide +kernel,by decide +kernel⟩
abbrev xiw:Stmt:=top 33
theorem xhz:FnScope ["_law_text", "_law_found", "_law_word", "_law_rest", "_law_sign", "_law_turn"] ["_law_text"] (defScope xiw):=⟨rfl,rfl,rfl,by decide +kernel,rfl,by decide +kernel,by decide +kernel⟩
abbrev xb4:Stmt:=top 34
theorem xaZ:FnScope ["_law_text", "error", "_law_others"] ["_law_text"] (defScope xb4):=⟨rfl,rfl,rfl,by decide +kernel,rfl,by decide +kernel,by decide +kernel⟩
abbrev xem:Stmt:=top 35
theorem xdd:FnScope ["_law_text", "_law_due", "_law_found"] ["_law_text"] (defScope xem):=⟨rfl,rfl,rfl,by decide +kernel,rfl,by decide +kernel,by decide +kernel⟩
abbrev xhw:Stmt:=top 36
theorem xfP:FnScope ["_law_some"] [] (defScope xhw):=⟨rfl,rfl,rfl,by decide +kernel,rfl,by decide +kernel,by decide +kernel⟩
abbrev s_law:Stmt:=top 37
theorem xja:FnScope ["_law_script", "_law_rests_here", "_law_text", "_law_handed", "_law_cell", "_law_k", "_law_at", "_law_sign"] ["_law_script"] (defScope s_law):=⟨rfl,rfl,rfl,by decide +kernel,rfl,by decide +kernel,by decide +kernel⟩
theorem xiz:CompSc (defScope s_law) { kind:=PySem.ScopeKind.function,names:=[ (PySem.Str.ofString ".0", PySem.NameKind.local),(PySem.Str.ofString "_law_rest", PySem.NameKind.local),(PySem.Str.ofString "_law_turn", PySem.NameKind.local),(PySem.Str.ofString "str", PySem.NameKind.globalImplicit)],isGenerator:=false,isCoroutine:=false,more:=[]:PySem.Scope } ["_law_script", "_law_rests_here", "_law_text", "_law_handed", "_law_cell", "_law_k", "_law_at", "_law_sign"] ["_law_rest", "_law_turn"] [none,none]:=⟨rfl,by decide +kernel,by decide +kernel,by decide +kernel,rfl,by decide +kernel,by decide +kernel⟩
theorem xiA:CompSc (defScope s_law) { kind:=PySem.ScopeKind.function,names:=[ (PySem.Str.ofString ".0", PySem.NameKind.local),(PySem.Str.ofString "_law_other", PySem.NameKind.local),(PySem.Str.ofString "_law_right", PySem.NameKind.globalImplicit)],isGenerator:=false,isCoroutine:=false,more:=[]:PySem.Scope } ["_law_script", "_law_rests_here", "_law_text", "_law_handed", "_law_cell", "_law_k", "_law_at", "_law_sign"] ["_law_other"] [none]:=⟨rfl,by decide +kernel,by decide +kernel,by decide +kernel,rfl,by decide +kernel,by decide +kernel⟩
theorem xiB:CompSc (defScope s_law) { kind:=PySem.ScopeKind.function,names:=[ (PySem.Str.ofString ".0", PySem.NameKind.local),(PySem.Str.ofString "_law_thing", PySem.NameKind.local),(PySem.Str.ofString "_law_refused", PySem.NameKind.globalImplicit)],isGenerator:=false,isCoroutine:=false,more:=[]:PySem.Scope } ["_law_script", "_law_rests_here", "_law_text", "_law_handed", "_law_cell", "_law_k", "_law_at", "_law_sign"] ["_law_thing"] [none]:=⟨rfl,by decide +kernel,by decide +kernel,by decide +kernel,rfl,by decide +kernel,by decide +kernel⟩
structure Adr where
  xgk:Addr
  xgI:FuncData
  xgj:Addr
  xgH:FuncData
  xh4:Addr
  xic:FuncData
  xbe:Addr
  xbw:FuncData
  xeF:Addr
  xe2:FuncData
  xh5:Addr
  xid:FuncData
  xiS:Addr
  xiY:FuncData
  xeG:Addr
  xe3:FuncData
  xcn:Addr
  xcF:FuncData
  xcm:Addr
  xcE:FuncData
  xbc:Addr
  xbu:FuncData
  xeE:Addr
  xe1:FuncData
  xds:Addr
  xdM:FuncData
  xdq:Addr
  xdK:FuncData
  xcl:Addr
  xcD:FuncData
  xh3:Addr
  xib:FuncData
  xbd:Addr
  xbv:FuncData
  xdr:Addr
  xdL:FuncData
  xgi:Addr
  xgG:FuncData
  a_law:Addr
  d_law:FuncData
  xeQ:Addr
  xgv:Addr
  xdz:Addr
  xgw:Addr
  xh6:Addr
  xgu:Addr
  xh7:Addr
  xat:Tok
  xhJ:Tok
  xiC:Tok
  xce:Tok
structure Txt (K:PySem.W.Frag) (mg:Str → Option Value) (A:Adr):Prop where
  xgd:Fun K "is_whole" "is_whole" xhy A.xgk A.xgI
  xeN:Binds K A.xgI ["value"] []
  xhh:mg "is_whole" = some (.ref A.xgk)
  xg8:PySem.W.keepIn K (.ref A.xgk) = true
  xgc:Fun K "is_round" "is_round" xhx A.xgj A.xgH
  xeM:Binds K A.xgH ["value"] []
  xhg:mg "is_round" = some (.ref A.xgj)
  xg7:PySem.W.keepIn K (.ref A.xgj) = true
  xhX:Fun K "is_rest" "is_rest" xix A.xh4 A.xic
  xgq:Binds K A.xic ["value", "turn"] []
  xit:mg "is_rest" = some (.ref A.xh4)
  xil:PySem.W.keepIn K (.ref A.xh4) = true
  xa8:Fun K "is_rest_pair" "is_rest_pair" xb5 A.xbe A.xbw
  xaz:Binds K A.xbw ["value"] []
  xbP:mg "is_rest_pair" = some (.ref A.xbe)
  xbJ:PySem.W.keepIn K (.ref A.xbe) = true
  xez:Fun K "are_rests" "are_rests" xfN A.xeF A.xe2
  xdx:Binds K A.xe2 ["value"] []
  xfw:mg "are_rests" = some (.ref A.xeF)
  xfp:PySem.W.keepIn K (.ref A.xeF) = true
  xhY:Fun K "written" "written" xiy A.xh5 A.xid
  xgr:Binds K A.xid ["rests"] []
  xiu:mg "written" = some (.ref A.xh5)
  xim:PySem.W.keepIn K (.ref A.xh5) = true
  xiQ:Fun K "read" "read" xi9 A.xiS A.xiY
  xiE:Binds K A.xiY ["text"] []
  xi4:mg "read" = some (.ref A.xiS)
  xi2:PySem.W.keepIn K (.ref A.xiS) = true
  xeA:Fun K "read_pair" "read_pair" xfO A.xeG A.xe3
  xdy:Binds K A.xe3 ["word"] []
  xfx:mg "read_pair" = some (.ref A.xeG)
  xfq:PySem.W.keepIn K (.ref A.xeG) = true
  xch:Fun K "read_number" "read_number" xdb A.xcn A.xcF
  xbk:Binds K A.xcF ["word"] []
  xcY:mg "read_number" = some (.ref A.xcn)
  xcS:PySem.W.keepIn K (.ref A.xcn) = true
  xcg:Fun K "are_figures" "are_figures" xda A.xcm A.xcE
  xbj:Binds K A.xcE ["word"] []
  xcX:mg "are_figures" = some (.ref A.xcm)
  xcR:PySem.W.keepIn K (.ref A.xcm) = true
  xa6:Fun K "_law_cell_at" "_law_cell_at" xb3 A.xbc A.xbu
  xax:Binds K A.xbu ["_law_script", "_law_k"] []
  xbN:mg "_law_cell_at" = some (.ref A.xbc)
  xbH:PySem.W.keepIn K (.ref A.xbc) = true
  xey:Fun K "_law_draw" "_law_draw" xfM A.xeE A.xe1
  xdw:Binds K A.xe1 ["_law_cell", "_law_k", "_law_many"] []
  xfv:mg "_law_draw" = some (.ref A.xeE)
  xfo:PySem.W.keepIn K (.ref A.xeE) = true
  xdm:Fun K "_law_turns" "_law_turns" xen A.xds A.xdM
  xct:Binds K A.xdM ["_law_script"] []
  xd7:mg "_law_turns" = some (.ref A.xds)
  xd0:PySem.W.keepIn K (.ref A.xds) = true
  xdk:Fun K "_law_rests" "_law_rests" xel A.xdq A.xdK
  xcr:Binds K A.xdK ["_law_script"] []
  xd5:mg "_law_rests" = some (.ref A.xdq)
  xdY:PySem.W.keepIn K (.ref A.xdq) = true
  xcf:Fun K "_law_number" "_law_number" xc9 A.xcl A.xcD
  xbi:Binds K A.xcD ["_law_text"] []
  xcW:mg "_law_number" = some (.ref A.xcl)
  xcQ:PySem.W.keepIn K (.ref A.xcl) = true
  xhW:Fun K "_law_in" "_law_in" xiw A.xh3 A.xib
  xgp:Binds K A.xib ["_law_text"] []
  xis:mg "_law_in" = some (.ref A.xh3)
  xik:PySem.W.keepIn K (.ref A.xh3) = true
  xa7:Fun K "_law_refused" "_law_refused" xb4 A.xbd A.xbv
  xay:Binds K A.xbv ["_law_text"] []
  xbO:mg "_law_refused" = some (.ref A.xbd)
  xbI:PySem.W.keepIn K (.ref A.xbd) = true
  xdl:Fun K "_law_right" "_law_right" xem A.xdr A.xdL
  xcs:Binds K A.xdL ["_law_text"] []
  xd6:mg "_law_right" = some (.ref A.xdr)
  xdZ:PySem.W.keepIn K (.ref A.xdr) = true
  xgb:Fun K "_law_few" "_law_few" xhw A.xgi A.xgG
  xeL:Binds K A.xgG [] []
  xhf:mg "_law_few" = some (.ref A.xgi)
  xg6:PySem.W.keepIn K (.ref A.xgi) = true
  F_law:Fun K "law" "law" s_law A.a_law A.d_law
  xiU:Binds K A.d_law ["_law_script"] []
  m_law:mg "law" = some (.ref A.a_law)
  k_law:PySem.W.keepIn K (.ref A.a_law) = true
  xfu:mg "RestError" = some (.ref A.xeQ)
  xhd:mg "BadRests" = some (.ref A.xgv)
  xd4:mg "BadNumbers" = some (.ref A.xdz)
  xhe:mg "BadRound" = some (.ref A.xgw)
  xiq:mg "BadRest" = some (.ref A.xh6)
  xhc:mg "BadCount" = some (.ref A.xgu)
  xir:mg "BadText" = some (.ref A.xh7)
  xe9:ExObj K A.xgv
  xe8:ExCls K A.xgv
  xac:PySem.W.exmOne K (.ref A.xgv) (.ref A.xeQ) = some true
  xae:PySem.W.kitOne K (.ref A.xgv) (.ref A.xgv) = some true
  xaa:PySem.W.kitOne K (.ref A.xgv) (.ref A.xdz) = some false
  xaf:PySem.W.kitOne K (.ref A.xgv) (.ref A.xgw) = some false
  xah:PySem.W.kitOne K (.ref A.xgv) (.ref A.xh6) = some false
  xad:PySem.W.kitOne K (.ref A.xgv) (.ref A.xgu) = some false
  xai:PySem.W.kitOne K (.ref A.xgv) (.ref A.xh7) = some false
  xff:PySem.W.kitOne K (.ref A.xgv) (.type "ValueError") = some true
  xgO:ExObj K A.xh7
  xgN:ExCls K A.xh7
  xag:PySem.W.exmOne K (.ref A.xh7) (.ref A.xeQ) = some true
  xak:PySem.W.kitOne K (.ref A.xh7) (.ref A.xgv) = some false
  xab:PySem.W.kitOne K (.ref A.xh7) (.ref A.xdz) = some false
  xal:PySem.W.kitOne K (.ref A.xh7) (.ref A.xgw) = some false
  xam:PySem.W.kitOne K (.ref A.xh7) (.ref A.xh6) = some false
  xaj:PySem.W.kitOne K (.ref A.xh7) (.ref A.xgu) = some false
  xan:PySem.W.kitOne K (.ref A.xh7) (.ref A.xh7) = some true
  xgX:PySem.W.kitOne K (.ref A.xh7) (.type "ValueError") = some true
  xaq:mg "GREATEST_ROUND" = some (.int 1000000 A.xat)
  xgV:mg "NO_RESTS" = some (.str "-" A.xhJ)
  xij:mg "FIGURES" = some (.str "0123456789" A.xiC)
  xbD:mg "MOST_FIGURES" = some (.int 7 A.xce)
  b_ValueError:mg "ValueError" = none
  b_abs:mg "abs" = none
  b_all:mg "all" = none
  b_any:mg "any" = none
  b_bool:mg "bool" = none
  b_enumerate:mg "enumerate" = none
  b_int:mg "int" = none
  b_isinstance:mg "isinstance" = none
  b_len:mg "len" = none
  b_list:mg "list" = none
  b_range:mg "range" = none
  b_str:mg "str" = none
  b_sum:mg "sum" = none
  b_tuple:mg "tuple" = none
  is_NoneType_int:PySem.W.kitOne K (.type "NoneType") (.type "int") = some false
  is_bool_int:PySem.W.kitOne K (.type "bool") (.type "int") = some true
  is_int_int:PySem.W.kitOne K (.type "int") (.type "int") = some true
  is_str_int:PySem.W.kitOne K (.type "str") (.type "int") = some false
  is_list_int:PySem.W.kitOne K (.type "list") (.type "int") = some false
  is_tuple_int:PySem.W.kitOne K (.type "tuple") (.type "int") = some false
  is_int_bool:PySem.W.kitOne K (.type "int") (.type "bool") = some false
  is_bool_bool:PySem.W.kitOne K (.type "bool") (.type "bool") = some true
  is_NoneType_list:PySem.W.kitOne K (.type "NoneType") (.type "list") = some false
  is_bool_list:PySem.W.kitOne K (.type "bool") (.type "list") = some false
  is_int_list:PySem.W.kitOne K (.type "int") (.type "list") = some false
  is_str_list:PySem.W.kitOne K (.type "str") (.type "list") = some false
  is_list_list:PySem.W.kitOne K (.type "list") (.type "list") = some true
  is_tuple_list:PySem.W.kitOne K (.type "tuple") (.type "list") = some false
  is_NoneType_tuple:PySem.W.kitOne K (.type "NoneType") (.type "tuple") = some false
  is_bool_tuple:PySem.W.kitOne K (.type "bool") (.type "tuple") = some false
  is_int_tuple:PySem.W.kitOne K (.type "int") (.type "tuple") = some false
  is_str_tuple:PySem.W.kitOne K (.type "str") (.type "tuple") = some false
  is_list_tuple:PySem.W.kitOne K (.type "list") (.type "tuple") = some false
  is_tuple_tuple:PySem.W.kitOne K (.type "tuple") (.type "tuple") = some true
  is_NoneType_str:PySem.W.kitOne K (.type "NoneType") (.type "str") = some false
  is_bool_str:PySem.W.kitOne K (.type "bool") (.type "str") = some false
  is_int_str:PySem.W.kitOne K (.type "int") (.type "str") = some false
  is_str_str:PySem.W.kitOne K (.type "str") (.type "str") = some true
  is_list_str:PySem.W.kitOne K (.type "list") (.type "str") = some false
  is_tuple_str:PySem.W.kitOne K (.type "tuple") (.type "str") = some false
end W07
set_option Elab.async false
set_option linter.all false
set_option maxRecDepth 100000
namespace W07
open PySem L2
section
variable {P:Program} {w:World} {K:PySem.W.Frag} {mg:Str → Option Value} {base:Heap} {A:Adr}
def PrsAt (H:Hp) (a:Addr) (rs:List (Int × Int)):Prop:=∃ as:List Addr,H a = some (.lst (as.map V.ref)) ∧ Paired (fun b (p:Int × Int)=>H b = some (.tup [.int p.1,.int p.2])) as rs
theorem PrsAt.same {H H':Hp} {a:Addr} {rs:List (Int × Int)} (e:Same H H') (h:PrsAt H a rs):PrsAt H' a rs:=by
  obtain ⟨as,h1,h2⟩:=h
  exact ⟨as,e _ _ h1,Paired.mapP h2 fun b p q=>e _ _ q⟩
theorem PrsAt.pairs {H:Hp} {a:Addr} {rs:List (Int × Int)} (h:PrsAt H a rs):PairsAt K H a rs:=by
  obtain ⟨as,h1,h2⟩:=h
  exact ⟨as,SqL.of h1,Paired.mapP h2 fun b p q=>SqT.of q⟩
theorem prs_get {H:Hp} {as:List Addr} {rs:List (Int × Int)} (h:Paired (fun b (p:Int × Int)=>H b = some (.tup [.int p.1,.int p.2])) as rs) {i:Nat} {x:V} (hx:(as.map V.ref)[i]? = some x) :
    ∃ b p,x = .ref b ∧ as[i]? = some b ∧ rs[i]? = some p ∧ H b = some (.tup [.int p.1,.int p.2]):=by
  rw [List.getElem?_map] at hx
  cases e:as[i]? with
  | none=>rw [e] at hx; cases hx
  | some b =>
    rw [e] at hx
    have hi:i < rs.length:=by
      have:=h.length
      have:=(List.getElem?_eq_some_iff.mp e).1
      omega
    obtain ⟨b',eb,hq⟩:=Paired.get' h i _ (List.getElem?_eq_getElem hi)
    rw [e] at eb
    cases eb
    exact ⟨b,_,(Option.some.inj hx).symm,rfl,List.getElem?_eq_getElem hi,hq⟩
def RsOk (rs:List (Int × Int)):Prop:=∀ p ∈ rs,0 ≤ p.1 ∧ p.1 < p.2 ∧ p.2 ≤ 1000000
def LstAt (H:Hp) (a:Addr) (ns:List Int):Prop:=H a = some (.lst (ns.map V.int))
theorem paired_snoc {α β:Type} {F:α → β → Prop} {a:α} {b:β}:∀ {l₁:List α} {l₂:List β},Paired F l₁ l₂ → F a b → Paired F (l₁ ++ [a]) (l₂ ++ [b])
  | [],[],_,h=>.cons h .nil
  | [],_ :: _,r,_=>nomatch r
  | _ :: _,[],r,_=>nomatch r
  | _ :: _,_ :: _,.cons x r,h=>.cons x (paired_snoc r h)
theorem LstAt.ints {H:Hp} {a:Addr} {ns:List Int} (h:LstAt H a ns):IntsAt K H a ns:=SqL.of h
def sp_whole_int:Sp:=fun vs H Q _=>∃ i:Int,vs = [.int i] ∧ Q (.bl true) H
theorem xfH (T:Txt K mg A):FnOk P w K mg base CX0 1 A.xgk A.xgI ["value"] sp_whole_int:=by
  refine T.xgd.ok xfR (fun vs H Q E h=>?_) (fun cdv Ar outer s H vs Q E hr h=>?_)
  · obtain ⟨i,rfl,_⟩:=h
    rfl
  obtain ⟨i,rfl,q⟩:=h
  refine ⟨_,(@pss_one _ _ _ (@ps_ret _ _ _ _ (@pe_and _ _ _ _ _ _ _ (@pe_callB _ _ _ _ _ _ _ _ _ call_isinst rfl T.b_isinstance B.isinstance (@pa_consN _ _ _ _ _ (@pv _ 0 _ _ (by rfl) (Or.inl rfl) (by decide) (by decide)) (@pa_consN _ _ _ _ _ (@pe_bltn _ _ (.ty "int") _ _ rfl T.b_int B.int rfl (by decide) (by decide)) (@pa_nil _) (by rfl)) (by rfl)) (by decide) (by decide) (by rfl) (by rfl)) (@pe_one _ _ _ _ _ (@pe_not _ _ _ _ (@pe_callB _ _ _ _ _ _ _ _ _ call_isinst rfl T.b_isinstance B.isinstance (@pa_consN _ _ _ _ _ (@pv _ 0 _ _ (by rfl) (Or.inl rfl) (by decide) (by decide)) (@pa_consN _ _ _ _ _ (@pe_bltn _ _ (.ty "bool") _ _ rfl T.b_bool B.bool rfl (by decide) (by decide)) (@pa_nil _) (by rfl)) (by rfl)) (by decide) (by decide) (by rfl) (by rfl))))))),?_⟩
  exact ⟨_,rfl,_,_,_,_,_,rfl,TyOf.int i,rfl,T.is_int_int,_,rfl,iteT ⟨_,rfl,_,_,_,_,_,rfl,TyOf.int i,rfl,T.is_int_bool,_,rfl,q⟩⟩
def rndB (t:Int):Bool:=decide (1 ≤ t) && decide (t ≤ 1000000)
def xfW:Sp:=fun vs H Q _=>∃ i:Int,vs = [.int i] ∧ Q (.bl (rndB i)) H
theorem xfG (T:Txt K mg A):FnOk P w K mg base CX0 2 A.xgj A.xgH ["value"] xfW:=by
  have xgg:=xfH (P:=P) (w:=w) (base:=base) T
  refine T.xgc.ok xfQ (fun vs H Q E h=>?_) (fun cdv Ar outer s H vs Q E hr h=>?_)
  · obtain ⟨i,rfl,_⟩:=h
    rfl
  obtain ⟨i,rfl,q⟩:=h
  unfold rndB at q
  refine ⟨_,(@pss_one _ _ _ (@ps_ret _ _ _ _ (@pe_and _ _ _ _ _ _ _ (@pe_call _ _ _ _ _ _ _ _ _ _ _ _ _ _ _ _ xgg (hr.mono (by decide)) rfl T.xhh T.xg8 T.xeN .nil pass0 (@pa_consN _ _ _ _ _ (@pv _ 0 _ _ (by rfl) (Or.inl rfl) (by decide) (by decide)) (@pa_nil _) (by rfl)) (by decide) (by rfl) (by rfl)) (@pe_one _ _ _ _ _ (@pe_chain _ _ _ _ _ _ _ _ _ _ _ _ op_le op_le (@pe_int _ _ _ _) (@pv _ 0 _ _ (by rfl) (Or.inl rfl) (by decide) (by decide)) (@pe_glob _ _ (.int 1000000) _ _ rfl T.xaq ⟨_,rfl⟩ (by decide)) (by with_unfolding_all rfl)))))),?_⟩
  refine ⟨_,rfl,i,rfl,_,rfl,iteT ⟨_,rfl,_,_,rfl,rfl,_,rfl,?_⟩⟩
  by_cases h1:1 ≤ i
  · rw [decT h1] at q ⊢
    exact iteT ⟨_,_,rfl,rfl,q⟩
  · rw [decF h1] at q ⊢
    exact iteF q
def restI (r t:Int):Bool:=rndB t && (decide (0 ≤ r) && decide (r < t))
def xhH:Sp:=fun vs H Q _=>∃ r t:Int,vs = [.int r,.int t] ∧ Q (.bl (restI r t)) H
theorem xhq (T:Txt K mg A):FnOk P w K mg base CX0 3 A.xh4 A.xic ["value", "turn"] xhH:=by
  have xgg:=xfH (P:=P) (w:=w) (base:=base) T
  have xgf:=xfG (P:=P) (w:=w) (base:=base) T
  refine T.xhX.ok xhA (fun vs H Q E h=>?_) (fun cdv Ar outer s H vs Q E hr h=>?_)
  · obtain ⟨r,t,rfl,_⟩:=h
    rfl
  obtain ⟨r,t,rfl,q⟩:=h
  unfold restI at q
  refine ⟨_,(@pss_one _ _ _ (@ps_ret _ _ _ _ (@pe_and _ _ _ _ _ _ _ (@pe_call _ _ _ _ _ _ _ _ _ _ _ _ _ _ _ _ xgf (hr.mono (by decide)) rfl T.xhg T.xg7 T.xeM .nil pass0 (@pa_consN _ _ _ _ _ (@pv _ 1 _ _ (by rfl) (Or.inl rfl) (by decide) (by decide)) (@pa_nil _) (by rfl)) (by decide) (by rfl) (by rfl)) (@pe_and _ _ _ _ _ _ _ (@pe_call _ _ _ _ _ _ _ _ _ _ _ _ _ _ _ _ xgg (hr.mono (by decide)) rfl T.xhh T.xg8 T.xeN .nil pass0 (@pa_consN _ _ _ _ _ (@pv _ 0 _ _ (by rfl) (Or.inl rfl) (by decide) (by decide)) (@pa_nil _) (by rfl)) (by decide) (by rfl) (by rfl)) (@pe_one _ _ _ _ _ (@pe_chain _ _ _ _ _ _ _ _ _ _ _ _ op_le op_lt (@pe_int _ _ _ _) (@pv _ 0 _ _ (by rfl) (Or.inl rfl) (by decide) (by decide)) (@pv _ 1 _ _ (by rfl) (Or.inl rfl) (by decide) (by decide)) (by with_unfolding_all rfl))))))),?_⟩
  refine ⟨_,rfl,t,rfl,_,rfl,?_⟩
  cases hp:rndB t with
  | false=>rw [hp] at q; exact iteF q
  | true =>
    rw [hp] at q
    refine iteT ⟨_,rfl,r,rfl,_,rfl,iteT ⟨_,rfl,_,_,rfl,rfl,_,rfl,?_⟩⟩
    by_cases h1:0 ≤ r
    · rw [decT h1] at q ⊢
      exact iteT ⟨_,rfl,_,_,rfl,rfl,q⟩
    · rw [decF h1] at q ⊢
      exact iteF q
def xa5:Sp:=fun vs H Q _=>∃ (b:Addr) (r t:Int),vs = [.ref b] ∧ H b = some (.tup [.int r,.int t]) ∧ Q (.bl (restI r t)) H
theorem xaU (T:Txt K mg A):FnOk P w K mg base CX0 4 A.xbe A.xbw ["value"] xa5:=by
  have xh0:=xhq (P:=P) (w:=w) (base:=base) T
  refine T.xa8.ok xa1 (fun vs H Q E h=>?_) (fun cdv Ar outer s H vs Q E hr h=>?_)
  · obtain ⟨b,r,t,rfl,_⟩:=h
    rfl
  obtain ⟨b,r,t,rfl,hb,q⟩:=h
  refine ⟨_,(@pss_one _ _ _ (@ps_ret _ _ _ _ (@pe_and _ _ _ _ _ _ _ (@pe_callB _ _ _ _ _ _ _ _ _ call_isinst rfl T.b_isinstance B.isinstance (@pa_consN _ _ _ _ _ (@pv _ 0 _ _ (by rfl) (Or.inl rfl) (by decide) (by decide)) (@pa_consN _ _ _ _ _ (@pe_bltn _ _ (.ty "tuple") _ _ rfl T.b_tuple B.tuple rfl (by decide) (by decide)) (@pa_nil _) (by rfl)) (by rfl)) (by decide) (by decide) (by rfl) (by rfl)) (@pe_and _ _ _ _ _ _ _ (@pe_cmpR _ _ _ _ _ _ _ _ op_eqI (@pe_callB _ _ _ _ _ _ _ _ _ call_len_seq rfl T.b_len B.len (@pa_consN _ _ _ _ _ (@pv _ 0 _ _ (by rfl) (Or.inl rfl) (by decide) (by decide)) (@pa_nil _) (by rfl)) (by decide) (by decide) (by rfl) (by rfl)) (@pe_int _ _ _ _) (nomark _)) (@pe_one _ _ _ _ _ (@pe_call _ _ _ _ _ _ _ _ _ _ _ _ _ _ _ _ xh0 (hr.mono (by decide)) rfl T.xit T.xil T.xgq .nil pass0 (@pa_consN _ _ _ _ _ (@pe_ix _ _ _ _ _ _ _ ix_tup (@pv _ 0 _ _ (by rfl) (Or.inl rfl) (by decide) (by decide)) (@pe_int _ _ _ _) (fun _ _=>rfl)) (@pa_consN _ _ _ _ _ (@pe_ix _ _ _ _ _ _ _ ix_tup (@pv _ 0 _ _ (by rfl) (Or.inl rfl) (by decide) (by decide)) (@pe_int _ _ _ _) (fun _ _=>rfl)) (@pa_nil _) (by rfl)) (by rfl)) (by decide) (by rfl) (by rfl))))))),?_⟩
  refine ⟨_,rfl,_,_,_,_,_,rfl,TyOf.tup hb,rfl,T.is_tuple_tuple,_,rfl,iteT ⟨_,rfl,b,_,rfl,.inr (SqT.of hb),_,_,rfl,rfl,_,rfl,iteT ?_⟩⟩
  exact ⟨_,rfl,b,_,_,_,rfl,rfl,SqT.of hb,rfl,_,rfl,b,_,_,_,rfl,rfl,SqT.of hb,rfl,r,t,rfl,q⟩
theorem restI_ok {r t:Int} (h:0 ≤ r ∧ r < t ∧ t ≤ 1000000):restI r t = true:=by
  unfold restI rndB
  rw [decT (show 1 ≤ t by omega),decT h.2.2,decT h.1,decT h.2.1]
  rfl
theorem restI_of {r t:Int} (h:restI r t = true):0 ≤ r ∧ r < t ∧ t ≤ 1000000:=by
  unfold restI rndB at h
  simp only [Bool.and_eq_true,decide_eq_true_eq] at h
  omega
def xeu:Sp:=fun vs H Q _=>∃ (a:Addr) (rs:List (Int × Int)),vs = [.ref a] ∧ PrsAt H a rs ∧ RsOk rs ∧ rs.length ≤ 20000 ∧ ∀ H',Same H H' → Q (.bl true) H'
theorem xee (T:Txt K mg A):FnOk P w K mg base CX0 5 A.xeF A.xe2 ["value"] xeu:=by
  have xbb:=xaU (P:=P) (w:=w) (base:=base) T
  refine T.xez.ok xep (fun vs H Q E h=>?_) (fun cdv Ar outer s H vs Q E hr h=>?_)
  · obtain ⟨a,rs,rfl,_⟩:=h
    rfl
  obtain ⟨a,rs,rfl,hA,hO,hL,q⟩:=h
  refine ⟨_,(@pss_one _ _ _ (@ps_ret _ _ _ _ (@pe_and _ _ _ _ _ _ _ (@pe_callB _ _ _ _ _ _ _ _ _ call_isinst rfl T.b_isinstance B.isinstance (@pa_consN _ _ _ _ _ (@pv _ 0 _ _ (by rfl) (Or.inl rfl) (by decide) (by decide)) (@pa_consN _ _ _ _ _ (@pe_bltn _ _ (.ty "list") _ _ rfl T.b_list B.list rfl (by decide) (by decide)) (@pa_nil _) (by rfl)) (by rfl)) (by decide) (by decide) (by rfl) (by rfl)) (@pe_one _ _ _ _ _ (@pe_callB _ _ _ _ _ _ _ _ _ (call_all rfl) rfl T.b_all B.all (@pa_consN _ _ _ _ _ (@pe_comp0 _ _ (["pair"]) ([none]) _ _ _ _ _ _ _ _ xa0 rfl (@pi_list _ _ _ _ (@pv _ 0 _ _ (by rfl) (Or.inl rfl) (by decide) (by decide))) (fun z=>(@pg_name _ _ (0) _ xa0.nd rfl (Or.inl rfl) (by exact .inr rfl))) (sets_name 0) (by decide) (fun z=>(@pe_call _ _ _ _ _ _ _ _ _ _ _ _ _ _ _ _ xbb (hr.mono (by decide)) rfl T.xbP T.xbJ T.xaz .nil pass0 (@pa_consN _ _ _ _ _ (@pv _ 0 _ _ (by rfl) (by exact .inl rfl) (by decide) (by decide)) (@pa_nil _) (by rfl)) (by decide) (by rfl) (by rfl))) (by intro _; rfl)) (@pa_nil _) (by rfl)) (by decide) (by decide) (by rfl) (by rfl)))))),?_⟩
  obtain ⟨as,hS,hP⟩:=id hA
  have hal:=hP.length
  refine ⟨_,rfl,_,_,_,_,_,rfl,TyOf.lst hS,rfl,T.is_list_list,_,rfl,iteT ⟨_,rfl,a,rfl,⟨_,SqL.of hS⟩,comp_list (K:=K) (a:=a) (xs:=as.map V.ref) (fun i ys H'=>H' = H ∧ ys = (List.replicate i true).map V.bl) ⟨rfl,rfl⟩ (by rw [List.length_map]; exact Nat.le_trans (show as.length ≤ 20000 by omega) (by decide)) ?_ ?_ ?_⟩⟩
  · rintro i ys H' hi ⟨rfl,rfl⟩
    exact ⟨SqL.of hS,by rw [List.length_map,List.length_replicate]⟩
  · rintro i v ys H' hx ⟨rfl,rfl⟩
    obtain ⟨b,r,rfl,hb,hr',hq⟩:=prs_get hP hx
    refine ⟨_,rfl,b,r.1,r.2,rfl,hq,rfl,?_⟩
    rw [restI_ok (hO r (List.mem_of_getElem? hr')),List.replicate_succ',List.map_append]
    rfl
  · rintro ys H' ⟨rfl,rfl⟩ m hm
    refine ⟨m,List.replicate (as.map V.ref).length true,rfl,SqL.of upd_same,?_⟩
    rw [show (List.replicate (as.map V.ref).length true).all id = true by simp]
    exact q _ (same_new hm _)
end
end W07
set_option Elab.async false
set_option linter.all false
set_option maxRecDepth 100000
namespace W07
open PySem L2
section
variable {P:Program} {w:World} {K:PySem.W.Frag} {mg:Str → Option Value} {base:Heap} {A:Adr}
abbrev FIG:Str:=Str.ofString "0123456789"
def figs (w:Str):Bool:=(decide (1 ≤ w.length) && decide (w.length ≤ 7)) && (w.cps.all (fun c=>decide (c ∈ FIG.cps.toList)) && (decide (w = Str.ofString "0") || !PySem.Txt.startswith w (Str.ofString "0")))
def xcc:Sp:=fun vs H Q _=>∃ w:Str,vs = [.str w] ∧ w.length ≤ 10000 ∧ ∀ H',Same H H' → Q (.bl (figs w)) H'
theorem xbX (T:Txt K mg A):FnOk P w K mg base CX0 1 A.xcm A.xcE ["word"] xcc:=by
  refine T.xcg.ok xb7 (fun vs H Q E h=>?_) (fun cdv Ar outer s H vs Q E hr h=>?_)
  · obtain ⟨w,rfl,_⟩:=h
    rfl
  obtain ⟨wd,rfl,hl,q⟩:=h
  refine ⟨_,(@pss_cons _ _ _ _ _ (@ps_if _ _ _ _ _ _ _ _ (@PW.pt _ _ _ (@pw_or _ _ _ _ _ _ _ (@pt_not _ _ _ _ (@pt_chain _ _ _ _ _ _ _ _ _ _ _ _ op_le op_le (@pe_int _ _ _ _) (@pe_callB _ _ _ _ _ _ _ _ _ call_len_str rfl T.b_len B.len (@pa_consN _ _ _ _ _ (@pv _ 0 _ _ (by rfl) (Or.inl rfl) (by decide) (by decide)) (@pa_nil _) (by rfl)) (by decide) (by decide) (by rfl) (by rfl)) (@pe_glob _ _ (.int 7) _ _ rfl T.xbD ⟨_,rfl⟩ (by decide)) (by with_unfolding_all rfl))) (@pw_or1 _ _ _ _ (@pt_not _ _ _ _ (@pt_val _ _ _ (@pe_callB _ _ _ _ _ _ _ _ _ (call_all rfl) rfl T.b_all B.all (@pa_consN _ _ _ _ _ (@pe_comp0 _ _ (["sign"]) ([none]) _ _ _ _ _ _ _ _ xap rfl (@pi_str _ _ _ _ (@pv _ 0 _ _ (by rfl) (Or.inl rfl) (by decide) (by decide))) (fun z=>(@pg_name _ _ (0) _ xap.nd rfl (Or.inl rfl) (by exact .inr rfl))) (sets_name 0) (by decide) (fun z=>(@pe_cmpR _ _ _ _ _ _ _ _ op_in_str (@pv _ 0 _ _ (by rfl) (by exact .inl rfl) (by decide) (by decide)) (@pe_glob _ _ (.str "0123456789") _ _ rfl T.xij ⟨_,rfl⟩ (by decide)) (by with_unfolding_all rfl))) (by intro _; rfl)) (@pa_nil _) (by rfl)) (by decide) (by decide) (by rfl) (by rfl)) (by intro _; rfl)))))) (@pss_one _ _ _ (@ps_ret _ _ _ _ (@pe_bl _ _ _ _))) (@pss_nil _)) (@pss_one _ _ _ (@ps_ret _ _ _ _ (@pe_or _ _ _ _ _ _ _ (@pe_cmpR _ _ _ _ _ _ _ _ op_eq (@pv _ 0 _ _ (by rfl) (Or.inl rfl) (by decide) (by decide)) (@pe_str _ _ _ _) (nomark _)) (@pe_one _ _ _ _ _ (@pe_not _ _ _ _ (@pe_bm _ _ _ _ _ _ _ _ _ _ _ _ PySem.F.plainAttrs_str PySem.F.slot_str_startswith PySem.F.type_str_startswith mt_startswith (@pv _ 0 _ _ (by rfl) (Or.inl rfl) (by decide) (by decide)) (@pa_consN _ _ _ _ _ (@pe_str _ _ _ _) (@pa_nil _) (by rfl)) (by rfl) (by rfl) (by rfl) (by rfl) (by rfl)))))))),?_⟩
  have hz:wd.length ≤ sizeLine:=Nat.le_trans hl (by decide)
  have no:∀ H',Same H H' → figs wd = false → Q (.bl false) H':=fun H' s' e=>by
    have z:=q H' s'
    rw [e] at z
    exact z
  refine ⟨_,rfl,wd,rfl,hz,_,_,rfl,rfl,_,rfl,?_⟩
  by_cases h1:(1:Int) ≤ (wd.length:Nat)
  case neg =>
    rw [decF h1]
    exact iteF ⟨_,rfl,iteT (iteT (no H (Same.refl H) (by unfold figs; rw [decF (show ¬ 1 ≤ wd.length by omega)]; rfl)))⟩
  rw [decT h1]
  refine iteT ⟨_,_,rfl,rfl,_,rfl,?_⟩
  by_cases h2:((wd.length:Nat):Int) ≤ 7
  case neg =>
    rw [decF h2]
    exact iteT (iteT (no H (Same.refl H) (by unfold figs; rw [decF (show ¬ wd.length ≤ 7 by omega)]; simp)))
  rw [decT h2]
  refine iteF ?_
  have hlen:wd.cps.toList.length = wd.cps.size:=Array.length_toList
  refine ⟨_,rfl,wd,rfl,comp_str (x:=wd) (fun i ys H'=>H' = H ∧ ys = ((wd.cps.toList.take i).map fun c=>decide (c ∈ FIG.cps.toList)).map V.bl) ⟨rfl,rfl⟩ hz ?_ ?_ ?_⟩
  · rintro i ys H' hi ⟨rfl,rfl⟩
    rw [List.length_map,List.length_map,List.length_take]
    omega
  · rintro i c ys H' hc ⟨rfl,rfl⟩
    refine ⟨_,rfl,⟨#[c]⟩,FIG,rfl,rfl,rfl,?_⟩
    rw [PySem.StrLaws.found_one,take_snoc (show wd.cps.toList[i]? = some c by rw [Array.getElem?_toList]; exact hc),List.map_append,List.map_append]
    rfl
  · rintro ys H' ⟨rfl,rfl⟩ m hm
    rw [← hlen,List.take_length]
    refine ⟨m,wd.cps.toList.map fun c=>decide (c ∈ FIG.cps.toList),rfl,SqL.of upd_same,_,rfl,?_⟩
    have ea:(wd.cps.toList.map fun c=>decide (c ∈ FIG.cps.toList)).all id = wd.cps.all (fun c=>decide (c ∈ FIG.cps.toList)):=by
      rw [List.all_map,← Array.all_toList]
      rfl
    rw [ea]
    have sm:=same_new hm (.lst ((wd.cps.toList.map fun c=>decide (c ∈ FIG.cps.toList)).map V.bl))
    cases hall:wd.cps.all (fun c=>decide (c ∈ FIG.cps.toList)) with
    | false=>exact iteT (no _ sm (by unfold figs; rw [hall]; simp))
    | true =>
      refine iteF ⟨_,rfl,rfl,_,rfl,?_⟩
      have z:=q _ sm
      unfold figs at z
      rw [hall,decT (show 1 ≤ wd.length by omega),decT (show wd.length ≤ 7 by omega)] at z
      by_cases h0:wd = Str.ofString "0"
      · rw [decT h0] at z
        rw [decT (show V.str wd = V.str (Str.ofString "0") by rw [h0])]
        exact iteT z
      · rw [decF h0] at z
        rw [decF (show ¬ V.str wd = V.str (Str.ofString "0") from fun e=>h0 (V.str.inj e))]
        exact iteF ⟨_,rfl,rfl,wd,_,rfl,rfl,_,rfl,z⟩
end
end W07
set_option Elab.async false
set_option linter.all false
set_option maxRecDepth 100000
namespace W07
open PySem L2
section
variable {P:Program} {w:World} {K:PySem.W.Frag} {mg:Str → Option Value} {base:Heap} {A:Adr}
theorem fig_dig {c:Nat} (h:c ∈ FIG.cps.toList):48 ≤ c ∧ c ≤ 57:=by
  have e:FIG.cps.toList = [48,49,50,51,52,53,54,55,56,57]:=by decide
  rw [e] at h
  simp at h
  omega
theorem str_ext {a b:Str} (h:a.cps.toList = b.cps.toList):a = b:=by
  obtain ⟨x⟩:=a
  obtain ⟨y⟩:=b
  have:x = y:=by
    have h':x.toList = y.toList:=h
    simpa using congrArg List.toArray h'
  rw [this]
theorem char_back {c:Nat} (h:c ≤ 57):(Char.ofNat c).toNat = c:=by
  have:∀ c,c ≤ 57 → (Char.ofNat c).toNat = c:=by decide
  exact this c h
theorem figs_num {wd:Str} (h:figs wd = true):∃ n:Nat,PySem.intText? wd = some (n:Int) ∧ wd = Str.ofString (toString (n:Int)) ∧ wd.length ≤ 7:=by
  unfold figs at h
  simp only [Bool.and_eq_true,decide_eq_true_eq] at h
  obtain ⟨⟨h1,h2⟩,h3,h4⟩:=h
  have hd:PySem.NumText.AllDigits wd.cps.toList:=fun c hc=>by
    rw [Array.all_eq_true_iff_forall_mem] at h3
    exact fig_dig (of_decide_eq_true (h3 c (by simpa using hc)))
  have hl:wd.cps.toList.length = wd.length:=Array.length_toList
  have hne:wd.cps.toList ≠ []:=fun e=>by rw [e] at hl; simp at hl; omega
  refine ⟨PySem.NumText.digitsVal wd.cps.toList,PySem.intText_digits hd hne (by omega),str_ext ?_,h2⟩
  rw [PySem.W.KIN.signs_num]
  have hh:wd.cps.toList.length - 1 = 0 ∨ ∃ c r,wd.cps.toList = c :: r ∧ 49 ≤ c:=by
    match hw:wd.cps.toList,hne with
    | c :: r,_ =>
      by_cases h0:wd = Str.ofString "0"
      · left
        have:wd.cps.toList = [48]:=by rw [h0]; decide
        rw [← hw,this]
        rfl
      · right
        refine ⟨c,r,rfl,?_⟩
        have hc:=hd c (by rw [hw]; exact List.mem_cons_self)
        apply Classical.byContradiction
        intro hn
        have hc48:c = 48:=by omega
        rw [decF h0] at h4
        simp only [Bool.false_or,Bool.not_eq_true'] at h4
        have hs:PySem.Txt.startswith wd (Str.ofString "0") = true:=by
          unfold PySem.Txt.startswith
          have e0:(Str.ofString "0").length = 1:=by decide
          rw [e0,decT (show 0 + 1 ≤ wd.length by omega)]
          unfold Builtin.Str.subAt
          rw [e0]
          have:wd.cps.extract 0 (0 + 1) = (Str.ofString "0").cps:=by
            have e1:(Str.ofString "0").cps = #[48]:=by decide
            rw [e1]
            apply Array.ext'
            rw [Array.toList_extract,hw,hc48]
            rfl
          rw [this]
          simp
        rw [hs] at h4
        cases h4
  rw [PySem.NumText.toDigits_digitsVal (wd.cps.toList.length - 1) _ (by omega) hd hh,List.map_map]
  have:∀ cs:List Nat,PySem.NumText.AllDigits cs → cs = cs.map (Char.toNat ∘ Char.ofNat):=fun cs=>by
    induction cs with
    | nil=>intro _; rfl
    | cons c cs ih =>
      intro hc
      rw [List.map_cons,← ih fun x hx=>hc x (List.mem_cons_of_mem _ hx)]
      show c :: cs = (Char.ofNat c).toNat :: cs
      rw [char_back (hc c List.mem_cons_self).2]
  exact this _ hd
def numOf (wd:Str):Int:=(PySem.intText? wd).getD 0
end
end W07
set_option Elab.async false
set_option linter.all false
set_option maxRecDepth 100000
namespace W07
open PySem L2
section
variable {P:Program} {w:World} {K:PySem.W.Frag} {mg:Str → Option Value} {base:Heap} {A:Adr}
def Thr (C:Addr) (H:Hp) (E:XK):Prop:=∀ ea H',Same H H' → H' ea = none → E (.ref C) (some ea) H'
theorem Thr.same {C:Addr} {H H':Hp} {E:XK} (e:Same H H') (h:Thr C H E):Thr C H' E:=fun ea H2 s hea=>h ea H2 (e.trans s) hea
def xcd (A:Adr):Sp:=fun vs H Q E=>∃ w:Str,vs = [.str w] ∧ w.length ≤ 10000 ∧ (figs w = true → ∀ H',Same H H' → Q (.int (numOf w)) H') ∧ (figs w = false → Thr A.xh7 H E)
theorem xbZ (T:Txt K mg A):FnOk P w K mg base (CXx P w) 2 A.xcn A.xcF ["word"] (xcd A):=by
  have xcj:=xbX (P:=P) (w:=w) (base:=base) T
  refine T.xch.okx xb8 (fun vs H Q E h=>?_) (fun cdv Ar outer s H vs Q E hr h=>?_)
  · obtain ⟨w,rfl,_⟩:=h
    rfl
  obtain ⟨wd,rfl,hl,q1,q2⟩:=h
  refine ⟨_,(@pss_cons _ _ _ _ _ (@ps_if _ _ _ _ _ _ _ _ (@pt_not _ _ _ _ (@pt_val _ _ _ (@pe_call _ _ _ _ _ _ _ _ _ _ _ _ _ _ _ _ xcj (hr.mono (by decide)) rfl T.xcX T.xcR T.xbj .nil pass0 (@pa_consN _ _ _ _ _ (@pv _ 0 _ _ (by rfl) (Or.inl rfl) (by decide) (by decide)) (@pa_nil _) (by rfl)) (by decide) (by rfl) (by rfl)) (by intro _; rfl))) (@pss_one _ _ _ (@ps_raise _ _ leaves_cx rfl _ _ _ _ _ _ _ _ rfl T.xir T.xgO (by decide))) (@pss_nil _)) (@pss_one _ _ _ (@ps_ret _ _ _ _ (@pe_callTy _ _ _ _ _ _ _ _ _ call_int_text rfl T.b_int B.int (@pa_consN _ _ _ _ _ (@pv _ 0 _ _ (by rfl) (Or.inl rfl) (by decide) (by decide)) (@pa_nil _) (by rfl)) (by decide) (by decide) (by rfl) (by rfl))))),?_⟩
  refine ⟨_,rfl,wd,rfl,hl,fun H' s'=>⟨_,rfl,?_⟩⟩
  cases hf:figs wd with
  | false=>exact iteT fun ea he=>q2 hf ea H' s' he
  | true =>
    obtain ⟨n,hn,_,h7⟩:=figs_num hf
    have z:=q1 hf H' s'
    unfold numOf at z
    rw [hn] at z
    exact iteF ⟨_,rfl,wd,(n:Int),rfl,hn,by omega,z⟩
abbrev CO:Str:=Str.ofString ":"
abbrev BL:Str:=Str.ofString " "
def pairOf (wd:Str):Option (Int × Int):=if (figs (part3 wd CO).1 && figs (part3 wd CO).2.2 && restI (numOf (part3 wd CO).1) (numOf (part3 wd CO).2.2)) = true then some (numOf (part3 wd CO).1,numOf (part3 wd CO).2.2) else none
theorem part_len (wd:Str):(part3 wd CO).1.length ≤ wd.length ∧ (part3 wd CO).2.2.length ≤ wd.length:=by
  unfold part3
  split
  · exact ⟨PySem.le_strSub ..,PySem.le_strSub ..⟩
  · exact ⟨Nat.le_refl _,Nat.zero_le _⟩
theorem pair_ok {wd:Str} {p:Int × Int} (h:pairOf wd = some p):figs (part3 wd CO).1 = true ∧ figs (part3 wd CO).2.2 = true ∧ p = (numOf (part3 wd CO).1,numOf (part3 wd CO).2.2) ∧ 0 ≤ p.1 ∧ p.1 < p.2 ∧ p.2 ≤ 1000000:=by
  unfold pairOf at h
  split at h
  · rename_i hc
    rw [Bool.and_eq_true,Bool.and_eq_true] at hc
    cases h
    exact ⟨hc.1.1,hc.1.2,rfl,restI_of hc.2⟩
  · cases h
def xev (A:Adr):Sp:=fun vs H Q E=>∃ w:Str,vs = [.str w] ∧ w.length ≤ 10000 ∧ (∀ p,pairOf w = some p → ∀ b H',Same H H' → H' b = some (.tup [.int p.1,.int p.2]) → Q (.ref b) H') ∧ (pairOf w = none → Thr A.xh7 H E)
theorem xeh (T:Txt K mg A):FnOk P w K mg base (CXx P w) 5 A.xeG A.xe3 ["word"] (xev A):=by
  have xck:=xbZ (P:=P) (w:=w) (base:=base) T
  have xbb:=xaU (P:=P) (w:=w) (base:=base) T
  refine T.xeA.okx xeq (fun vs H Q E h=>?_) (fun cdv Ar outer s H vs Q E hr h=>?_)
  · obtain ⟨w,rfl,_⟩:=h
    rfl
  obtain ⟨wd,rfl,hl,q1,q2⟩:=h
  refine ⟨_,(@pss_cons _ _ _ _ _ (@ps_set _ _ (1) _ _ _ _ xeq.nd rfl (Or.inl rfl) (@pe_bm _ _ _ _ _ _ _ _ _ _ _ _ PySem.F.plainAttrs_str PySem.F.slot_str_partition PySem.F.type_str_partition mt_partition (@pv _ 0 _ _ (by rfl) (Or.inl rfl) (by decide) (by decide)) (@pa_consN _ _ _ _ _ (@pe_str _ _ _ _) (@pa_nil _) (by rfl)) (by rfl) (by rfl) (by rfl) (by rfl) (by rfl)) (by rfl) (Or.inl rfl)) (@pss_cons _ _ _ _ _ (@ps_set _ _ (2) _ _ _ _ xeq.nd rfl (Or.inl rfl) (@pe_tup _ _ _ _ _ (@pa_consN _ _ _ _ _ (@pe_call _ _ _ _ _ _ _ _ _ _ _ _ _ _ _ _ xck (hr.mono (by decide)) rfl T.xcY T.xcS T.xbk .nil (passx leaves_cx (fun _ _ _ z=>z)) (@pa_consN _ _ _ _ _ (@pe_ix _ _ _ _ _ _ _ ix_tup (@pv _ 1 _ _ (by rfl) (Or.inl rfl) (by decide) (by decide)) (@pe_int _ _ _ _) (fun _ _=>rfl)) (@pa_nil _) (by rfl)) (by decide) (by rfl) (by rfl)) (@pa_consN _ _ _ _ _ (@pe_call _ _ _ _ _ _ _ _ _ _ _ _ _ _ _ _ xck (hr.mono (by decide)) rfl T.xcY T.xcS T.xbk .nil (passx leaves_cx (fun _ _ _ z=>z)) (@pa_consN _ _ _ _ _ (@pe_ix _ _ _ _ _ _ _ ix_tup (@pv _ 1 _ _ (by rfl) (Or.inl rfl) (by decide) (by decide)) (@pe_int _ _ _ _) (fun _ _=>rfl)) (@pa_nil _) (by rfl)) (by decide) (by rfl) (by rfl)) (@pa_nil _) (by rfl)) (by rfl))) (by rfl) (Or.inl rfl)) (@pss_cons _ _ _ _ _ (@ps_if _ _ _ _ _ _ _ _ (@pt_not _ _ _ _ (@pt_val _ _ _ (@pe_call _ _ _ _ _ _ _ _ _ _ _ _ _ _ _ _ xbb (hr.mono (by decide)) rfl T.xbP T.xbJ T.xaz .nil pass0 (@pa_consN _ _ _ _ _ (@pv _ 2 _ _ (by rfl) (Or.inl rfl) (by decide) (by decide)) (@pa_nil _) (by rfl)) (by decide) (by rfl) (by rfl)) (by intro _; rfl))) (@pss_one _ _ _ (@ps_raise _ _ leaves_cx rfl _ _ _ _ _ _ _ _ rfl T.xir T.xgO (by decide))) (@pss_nil _)) (@pss_one _ _ _ (@ps_ret _ _ _ _ (@pv _ 2 _ _ (by rfl) (Or.inl rfl) (by decide) (by decide))))))),?_⟩
  have hz:wd.length ≤ sizeLine:=Nat.le_trans hl (by decide)
  have hpl:=part_len wd
  refine ⟨_,rfl,rfl,wd,CO,rfl,rfl,(by decide),hz,fun u hu=>?_⟩
  have su:=same_new hu (.tup [.str (part3 wd CO).1,.str (part3 wd CO).2.1,.str (part3 wd CO).2.2])
  have hU:upd H u (.tup [.str (part3 wd CO).1,.str (part3 wd CO).2.1,.str (part3 wd CO).2.2]) u = some (.tup [.str (part3 wd CO).1,.str (part3 wd CO).2.1,.str (part3 wd CO).2.2]):=upd_same
  generalize upd H u (.tup [.str (part3 wd CO).1,.str (part3 wd CO).2.1,.str (part3 wd CO).2.2]) = H1 at *
  have th:pairOf wd = none → Thr A.xh7 H1 E:=fun e=>(q2 e).same su
  refine ⟨_,rfl,u,_,_,_,rfl,rfl,SqT.of hU,rfl,(part3 wd CO).1,rfl,Nat.le_trans hpl.1 hl,fun hf1 H2 s2=>?_,fun hf=>th (by unfold pairOf; rw [hf]; rfl)⟩
  refine ⟨_,rfl,u,_,_,_,rfl,rfl,SqT.of (s2 _ _ hU),rfl,(part3 wd CO).2.2,rfl,Nat.le_trans hpl.2 hl,fun hf2 H3 s3=>?_,fun hf=>(th (by unfold pairOf; rw [hf,Bool.and_false]; rfl)).same s2⟩
  refine ⟨(by show 2 ≤ sizeLine; decide),fun b hb=>⟨_,rfl,b,_,_,rfl,upd_same,_,rfl,?_⟩⟩
  have sb:=(su.trans (s2.trans s3)).trans (same_new hb (.tup [.int (numOf (part3 wd CO).1),.int (numOf (part3 wd CO).2.2)]))
  cases hr':restI (numOf (part3 wd CO).1) (numOf (part3 wd CO).2.2) with
  | false=>exact iteT fun ea he=>(q2 (by unfold pairOf; rw [hr',Bool.and_false]; rfl)) ea _ sb he
  | true=>exact iteF ⟨_,rfl,q1 (numOf (part3 wd CO).1,numOf (part3 wd CO).2.2) (by unfold pairOf; rw [hf1,hf2,hr']; rfl) b _ sb upd_same⟩
end
end W07
set_option Elab.async false
set_option linter.all false
set_option maxRecDepth 100000
namespace W07
open PySem L2
section
variable {P:Program} {w:World} {K:PySem.W.Frag} {mg:Str → Option Value} {base:Heap} {A:Adr}
def words (t:Str):List Str:=PySem.Txt.split t BL
def prOf (wd:Str):Int × Int:=(pairOf wd).getD (0,1)
def parse (t:Str):Option (List (Int × Int)):=if t = Str.ofString "-" then some [] else if (words t).all (fun wd=>(pairOf wd).isSome) = true then some ((words t).map prOf) else none
theorem words_len (t:Str):(words t).length ≤ t.length + 2:=by
  unfold words PySem.Txt.split
  split
  · show 1 ≤ _; omega
  · split
    · show 1 ≤ _; omega
    · rw [PyProof.Rows.len_partsBetween]
      have:=PySem.StrLaws.occ_length_le t BL 0 t.length (t.length + 1)
      omega
theorem parts_len (t:Str):(PySem.Builtin.Str.partsBetween t (PySem.Builtin.Str.occurrences t BL 0 t.length (t.length + 1)) BL.length).length ≤ t.length + 2:=by
  rw [PyProof.Rows.len_partsBetween]
  have:=PySem.StrLaws.occ_length_le t BL 0 t.length (t.length + 1)
  omega
theorem pf_len {t wd:Str} {n:Nat}:∀ {cs:List Nat} {a:Nat},wd ∈ PySem.StrLaws.partsFrom t n a cs → wd.length ≤ t.length
  | [],a,h=>by
    rw [List.mem_singleton.mp h]
    exact PySem.le_strSub ..
  | c :: r,a,h=>by
    rcases List.mem_cons.mp h with e | e
    · rw [e]; exact PySem.le_strSub ..
    · exact pf_len e
theorem word_len {t wd:Str} (h:wd ∈ words t):wd.length ≤ t.length:=by
  unfold words PySem.Txt.split at h
  split at h
  · rw [List.mem_singleton.mp h]; exact Nat.le_refl _
  · split at h
    · rw [List.mem_singleton.mp h]; exact Nat.le_refl _
    · rw [PySem.StrLaws.partsBetween_eq] at h
      exact pf_len h
def NoTxt (K:PySem.W.Frag) (H:Hp) (v:V):Prop:=∃ t,TyOf K H v t ∧ PySem.W.kitOne K t (.type "str") = some false
def xiP (K:PySem.W.Frag) (A:Adr):Sp:=fun vs H Q E=>∃ v,vs = [v] ∧ ((∃ t:Str,v = .str t ∧ t.length ≤ 10000 ∧ (∀ rs,parse t = some rs → ∀ a H',Same H H' → H a = none → PrsAt H' a rs → Q (.ref a) H') ∧ (parse t = none → Thr A.xh7 H E)) ∨ (NoTxt K H v ∧ Thr A.xh7 H E))
theorem prOf_some {wd:Str} {p:Int × Int} (h:pairOf wd = some p):prOf wd = p:=by unfold prOf; rw [h]; rfl
theorem xiL (T:Txt K mg A):FnOk P w K mg base (CXx P w) 6 A.xiS A.xiY ["text"] (xiP K A):=by
  have xeD:=xeh (P:=P) (w:=w) (base:=base) T
  refine T.xiQ.okx xiN (fun vs H Q E h=>?_) (fun cdv Ar outer s H vs Q E hr h=>?_)
  · obtain ⟨v,rfl,_⟩:=h
    rfl
  obtain ⟨v,rfl,h⟩:=h
  refine ⟨_,(@pss_cons _ _ _ _ _ (@ps_if _ _ _ _ _ _ _ _ (@pt_not _ _ _ _ (@pt_val _ _ _ (@pe_callB _ _ _ _ _ _ _ _ _ call_isinst rfl T.b_isinstance B.isinstance (@pa_consN _ _ _ _ _ (@pv _ 0 _ _ (by rfl) (Or.inl rfl) (by decide) (by decide)) (@pa_consN _ _ _ _ _ (@pe_bltn _ _ (.ty "str") _ _ rfl T.b_str B.str rfl (by decide) (by decide)) (@pa_nil _) (by rfl)) (by rfl)) (by decide) (by decide) (by rfl) (by rfl)) (by intro _; rfl))) (@pss_one _ _ _ (@ps_raise _ _ leaves_cx rfl _ _ _ _ _ _ _ _ rfl T.xir T.xgO (by decide))) (@pss_nil _)) (@pss_cons _ _ _ _ _ (@ps_if _ _ _ _ _ _ _ _ (@pt_cmpR _ _ _ _ _ _ _ _ op_eq (@pv _ 0 _ _ (by rfl) (Or.inl rfl) (by decide) (by decide)) (@pe_glob _ _ (.str "-") _ _ rfl T.xgV ⟨_,rfl⟩ (by decide)) (nomark _)) (@pss_one _ _ _ (@ps_ret _ _ _ _ (@pe_lst _ _ _ _ (@pa_nil _)))) (@pss_nil _)) (@pss_one _ _ _ (@ps_ret _ _ _ _ (@pe_comp0X _ _ (["word"]) ([none]) _ _ _ _ _ _ _ _ _ _ leaves_cx (fun _ _ _ z=>z) xhB rfl (@pi_list _ _ _ _ (@pe_bm _ _ _ _ _ _ _ _ _ _ _ _ PySem.F.plainAttrs_str PySem.F.slot_str_split PySem.F.type_str_split mt_split (@pv _ 0 _ _ (by rfl) (Or.inl rfl) (by decide) (by decide)) (@pa_consN _ _ _ _ _ (@pe_str _ _ _ _) (@pa_nil _) (by rfl)) (by rfl) (by rfl) (by rfl) (by rfl) (by rfl))) (fun z=>(@pg_name _ _ (0) _ xhB.nd rfl (Or.inl rfl) (by exact .inr rfl))) (sets_name 0) (by decide) (fun z=>(@pe_call _ _ _ _ _ _ _ _ _ _ _ _ _ _ _ _ xeD (hr.mono (by decide)) rfl T.xfx T.xfq T.xdy .nil passC (@pa_consN _ _ _ _ _ (@pv _ 0 _ _ (by rfl) (by exact .inl rfl) (by decide) (by decide)) (@pa_nil _) (by rfl)) (by decide) (by rfl) (by rfl))) (by intro _; rfl)))))),?_⟩
  rcases h with ⟨t,rfl,hl,q1,q2⟩ | ⟨⟨ty,hty,hk⟩,thr⟩
  case inr=>exact ⟨_,rfl,_,_,_,_,_,rfl,hty,rfl,hk,_,rfl,iteT fun ea he=>thr ea H (Same.refl H) he⟩
  refine ⟨_,rfl,_,_,_,_,_,rfl,TyOf.str t,rfl,T.is_str_str,_,rfl,iteF ?_⟩
  have hz:t.length ≤ sizeLine:=Nat.le_trans hl (by decide)
  refine ⟨_,rfl,rfl,_,rfl,?_⟩
  by_cases h0:t = Str.ofString "-"
  · rw [decT (show V.str t = V.str (Str.ofString "-") by rw [h0])]
    exact iteT ⟨Nat.zero_le _,fun a ha=>q1 [] (by unfold parse; rw [if_pos h0]) a _ (same_new ha _) ha ⟨[],upd_same,.nil⟩⟩
  rw [decF (show ¬ V.str t = V.str (Str.ofString "-") from fun e=>h0 (V.str.inj e))]
  have hw:=words_len t
  have w12:t.length + 2 ≤ sizeLine:=Nat.le_trans (show t.length + 2 ≤ 10002 by omega) (by decide)
  refine iteF ⟨_,rfl,rfl,t,BL,rfl,rfl,(by decide),hz,Nat.le_trans hw w12,Nat.le_trans (parts_len t) w12,fun l hlf=>?_⟩
  have sl:=same_new hlf (.lst ((words t).map V.str))
  have hL:upd H l (.lst ((words t).map V.str)) l = some (.lst ((words t).map V.str)):=upd_same
  refine ⟨l,rfl,⟨_,SqL.of hL⟩,comp_list (K:=K) (a:=l) (xs:=(words t).map V.str) (fun i ys H'=>Same (upd H l (.lst ((words t).map V.str))) H' ∧ ((words t).take i).all (fun wd=>(pairOf wd).isSome) = true ∧ ∃ as:List Addr,ys = as.map V.ref ∧ Paired (fun b (p:Int × Int)=>H' b = some (.tup [.int p.1,.int p.2])) as (((words t).take i).map prOf)) ⟨Same.refl _,rfl,[],rfl,.nil⟩ (by rw [List.length_map]; exact Nat.le_trans hw w12) ?_ ?_ ?_⟩
  · rintro i ys H' hi ⟨s',ha,as,rfl,hp⟩
    refine ⟨SqL.of (s' _ _ hL),?_⟩
    rw [List.length_map] at hi ⊢
    rw [hp.length,List.length_map,List.length_take]
    omega
  · rintro i v ys H' hx ⟨s',ha,as,rfl,hp⟩
    rw [List.getElem?_map] at hx
    cases hwd:(words t)[i]? with
    | none=>rw [hwd] at hx; cases hx
    | some wd =>
      rw [hwd] at hx
      cases hx
      have hm:wd ∈ words t:=List.mem_of_getElem? hwd
      refine ⟨_,rfl,wd,rfl,Nat.le_trans (word_len hm) hl,fun p hpp b H2 s2 hb=>?_,fun hn=>?_⟩
      · refine ⟨s'.trans s2,?_,as ++ [b],by rw [List.map_append]; rfl,?_⟩
        · rw [take_snoc hwd,List.all_append,ha]
          show (_ && ((pairOf wd).isSome && true)) = true
          rw [hpp]
          rfl
        · rw [take_snoc hwd,List.map_append]
          refine paired_snoc (Paired.mapP hp fun b p q=>s2 _ _ q) ?_
          rw [prOf_some hpp]
          exact hb
      · refine (q2 ?_).same (sl.trans s')
        unfold parse
        rw [if_neg h0,if_neg]
        intro hall
        have:=List.all_eq_true.mp hall wd hm
        rw [hn] at this
        cases this
  · rintro ys H' ⟨s',ha,as,rfl,hp⟩ m hm
    rw [List.length_map,List.take_length] at ha hp
    exact q1 _ (by unfold parse; rw [if_neg h0,if_pos ha]) m _ ((sl.trans s').trans (same_new hm _)) ((sl.trans s').free hm) ⟨as,upd_same,Paired.mapP hp fun b p q=>same_new hm _ _ _ q⟩
end
end W07
set_option Elab.async false
set_option linter.all false
set_option maxRecDepth 100000
namespace W07
open PySem L2
section
variable {P:Program} {w:World} {K:PySem.W.Frag} {mg:Str → Option Value} {base:Heap} {A:Adr}
def pairTxt (p:Int × Int):Str:=Str.empty ++ (toString p.1:Str) ++ CO ++ (toString p.2:Str)
theorem app_len (x y:Str):(x ++ y).length = x.length + y.length:=by
  show (x.cps ++ y.cps).size = x.cps.size + y.cps.size
  exact Array.size_append
theorem num_len {i:Int} (h0:0 ≤ i) (h1:i ≤ 1000000):(Str.ofString (toString i)).length ≤ 7:=by
  obtain ⟨n,rfl⟩:=Int.eq_ofNat_of_zero_le h0
  have e:(Str.ofString (toString (n:Int))).length = ((Str.ofString (toString (n:Int))).cps.toList).length:=Array.length_toList.symm
  rw [e,PySem.W.KIN.signs_num,List.length_map]
  exact (Nat.length_toDigits_le_iff (by decide) (by decide)).mpr (Nat.lt_of_le_of_lt (show n ≤ 1000000 by omega) (by decide))
theorem em_len:Str.empty.length = 0:=rfl
theorem co_len:CO.length = 1:=rfl
theorem bl_len:BL.length = 1:=rfl
theorem pair_len {p:Int × Int} (h:0 ≤ p.1 ∧ p.1 < p.2 ∧ p.2 ≤ 1000000):(pairTxt p).length ≤ 15:=by
  unfold pairTxt
  have a:=num_len h.1 (show p.1 ≤ 1000000 by omega)
  have b:=num_len (show 0 ≤ p.2 by omega) h.2.2
  rw [app_len,app_len,app_len,em_len,co_len]
  omega
theorem fold_len {sep:Str} {m:Nat}:∀ (l:List Str) (n:Nat),(∀ x ∈ l,x.length ≤ m) → l.foldl (fun x1 x2=>x1 + x2.length + sep.length) n ≤ n + l.length * (m + sep.length)
  | [],n,_=>by simp
  | x :: l,n,h=>by
    rw [List.foldl_cons]
    have:=fold_len (sep:=sep) l (n + x.length + sep.length) fun y hy=>h y (List.mem_cons_of_mem _ hy)
    have hx:=h x List.mem_cons_self
    rw [List.length_cons,Nat.succ_mul]
    omega
theorem join_ok {l:List Str} {m:Nat} {sep:Str} (h:∀ x ∈ l,x.length ≤ m) (hb:l.length * (m + sep.length) ≤ 1000000):PySem.JoinOk sep l = true:=by
  unfold PySem.JoinOk
  rw [List.foldl_toArray]
  have:=fold_len (sep:=sep) l 0 h
  have k:1000000 ≤ sizeLine:=by decide
  unfold PySem.Builtin.Str.tooLong
  rw [decide_eq_false (by omega)]
  rfl
theorem log_lt {i:Int} (h0:0 ≤ i) (h1:i ≤ 1000000):i.natAbs.log2 < 1920:=by
  have:i.natAbs.log2 ≤ i.natAbs:=Nat.log2_le_self _
  by_cases hz:i.natAbs = 0
  · rw [hz]; decide
  · rw [Nat.log2_lt hz]
    exact Nat.lt_of_lt_of_le (show i.natAbs < 2 ^ 20 by omega) (Nat.pow_le_pow_right (by decide) (by decide))
def writ (rs:List (Int × Int)):Str:=if rs = [] then Str.ofString "-" else PySem.Txt.join BL (rs.map pairTxt)
def xhI:Sp:=fun vs H Q _=>∃ (a:Addr) (rs:List (Int × Int)),vs = [.ref a] ∧ PrsAt H a rs ∧ RsOk rs ∧ rs.length ≤ 20000 ∧ ∀ H',Same H H' → Q (.str (writ rs)) H'
theorem xhr (T:Txt K mg A):FnOk P w K mg base (CXx P w) 6 A.xh5 A.xid ["rests"] xhI:=by
  have xeC:=xee (P:=P) (w:=w) (base:=base) T
  refine T.xhY.okx xhC (fun vs H Q E h=>?_) (fun cdv Ar outer s H vs Q E hr h=>?_)
  · obtain ⟨a,rs,rfl,_⟩:=h
    rfl
  obtain ⟨a,rs,rfl,hA,hO,hL,q⟩:=h
  refine ⟨_,(@pss_cons _ _ _ _ _ (@ps_if _ _ _ _ _ _ _ _ (@pt_not _ _ _ _ (@pt_val _ _ _ (@pe_call _ _ _ _ _ _ _ _ _ _ _ _ _ _ _ _ xeC (hr.mono (by decide)) rfl T.xfw T.xfp T.xdx .nil pass0 (@pa_consN _ _ _ _ _ (@pv _ 0 _ _ (by rfl) (Or.inl rfl) (by decide) (by decide)) (@pa_nil _) (by rfl)) (by decide) (by rfl) (by rfl)) (by intro _; rfl))) (@pss_one _ _ _ (@ps_raise _ _ leaves_cx rfl _ _ _ _ _ _ _ _ rfl T.xhd T.xe9 (by decide))) (@pss_nil _)) (@pss_cons _ _ _ _ _ (@ps_if _ _ _ _ _ _ _ _ (@pt_cmpR _ _ _ _ _ _ _ _ op_eqI (@pe_callB _ _ _ _ _ _ _ _ _ call_len_seq rfl T.b_len B.len (@pa_consN _ _ _ _ _ (@pv _ 0 _ _ (by rfl) (Or.inl rfl) (by decide) (by decide)) (@pa_nil _) (by rfl)) (by decide) (by decide) (by rfl) (by rfl)) (@pe_int _ _ _ _) (nomark _)) (@pss_one _ _ _ (@ps_ret _ _ _ _ (@pe_glob _ _ (.str "-") _ _ rfl T.xgV ⟨_,rfl⟩ (by decide)))) (@pss_nil _)) (@pss_one _ _ _ (@ps_ret _ _ _ _ (@pe_bm _ _ _ _ _ _ _ _ _ _ _ _ PySem.F.plainAttrs_str PySem.F.slot_str_join PySem.F.type_str_join mt_join (@pe_str _ _ _ _) (@pa_consN _ _ _ _ _ (@pe_comp0 _ _ (["rest", "turn"]) ([none,none]) _ _ _ _ _ _ _ _ xdf rfl (@pi_list _ _ _ _ (@pv _ 0 _ _ (by rfl) (Or.inl rfl) (by decide) (by decide))) (fun z=>(@pg_tup _ _ _ _ _ (2) rfl (@pgs_cons _ _ _ _ _ (@pg_name _ _ (0) _ xdf.nd rfl (Or.inl rfl) (by exact .inr rfl)) (@pgs_cons _ _ _ _ _ (@pg_name _ _ (1) _ xdf.nd rfl (Or.inl rfl) (by exact .inr rfl)) (@pgs_nil _) (by rfl)) (by rfl)) (by rfl) (by rfl))) (sets_two _ _ 0 1) (by decide) (fun z=>(@pe_fstr _ _ _ _ _ _ _ _ _ _ _ (@pv _ 0 _ _ (by rfl) (by exact .inl rfl) (by decide) (by decide)) (@pv _ 1 _ _ (by rfl) (by exact .inl rfl) (by decide) (by decide)))) (by intro _; rfl)) (@pa_nil _) (by rfl)) (by rfl) (by rfl) (by rfl) (by rfl) (by rfl)))))),?_⟩
  refine ⟨_,rfl,a,rs,rfl,hA,hO,hL,fun H1 s1=>⟨_,rfl,iteF ?_⟩⟩
  obtain ⟨as,hS,hP⟩:=hA.same s1
  have hal:=hP.length
  have hlen:(as.map V.ref).length = rs.length:=by rw [List.length_map,hal]
  refine ⟨_,rfl,a,as.map V.ref,rfl,.inl (SqL.of hS),_,_,rfl,rfl,_,rfl,?_⟩
  by_cases h0:(((as.map V.ref).length:Nat):Int) = 0
  · rw [decT h0]
    have hn:rs = []:=List.eq_nil_of_length_eq_zero (by omega)
    have z:=q _ s1
    unfold writ at z
    rw [if_pos hn] at z
    exact iteT z
  rw [decF h0]
  have hn:¬ rs = []:=fun e=>by rw [e] at hlen; exact h0 (by rw [hlen]; rfl)
  refine iteF ⟨rfl,_,rfl,a,rfl,⟨_,SqL.of hS⟩,comp_list (K:=K) (a:=a) (xs:=as.map V.ref) (fun i ys H'=>H' = H1 ∧ ys = ((rs.take i).map pairTxt).map V.str) ⟨rfl,rfl⟩ (by rw [List.length_map]; exact Nat.le_trans (show as.length ≤ 20000 by omega) (by decide)) ?_ ?_ ?_⟩
  · rintro i ys H' hi ⟨rfl,rfl⟩
    rw [List.length_map,List.length_map,List.length_take]
    exact ⟨SqL.of hS,by omega⟩
  · rintro i v ys H' hx ⟨rfl,rfl⟩
    obtain ⟨b,r,rfl,hb,hr',hq⟩:=prs_get hP hx
    have ho:=hO r (List.mem_of_getElem? hr')
    have h15:=pair_len ho
    unfold pairTxt at h15
    have k15:∀ {n:Nat},n ≤ 15 → n ≤ sizeLine:=fun h=>Nat.le_trans h (by decide)
    have l3:(Str.empty ++ (toString r.1:Str) ++ CO).length ≤ 15:=by rw [app_len] at h15; omega
    have l2:(Str.empty ++ (toString r.1:Str)).length ≤ 15:=by rw [app_len] at l3; omega
    refine ⟨b,_,rfl,SqT.of hq,rfl,_,_,rfl,_,_,rfl,rfl,_,rfl,r.1,rfl,log_lt ho.1 (by omega),k15 l2,k15 l3,_,rfl,r.2,rfl,log_lt (by omega) ho.2.2,k15 h15,rfl,?_⟩
    rw [take_snoc hr',List.map_append,List.map_append]
    rfl
  · rintro ys H' ⟨rfl,rfl⟩ m hm
    rw [hlen,List.take_length]
    have z:=q _ (s1.trans (same_new hm (.lst ((rs.map pairTxt).map V.str))))
    unfold writ at z
    rw [if_neg hn] at z
    refine ⟨BL,m,rs.map pairTxt,rfl,rfl,SqL.of upd_same,join_ok (m:=15) (fun x hx=>?_) (by rw [List.length_map,bl_len]; omega),z⟩
    obtain ⟨p,hp,rfl⟩:=List.mem_map.mp hx
    exact pair_len (hO p hp)
end
end W07
set_option Elab.async false
set_option linter.all false
set_option maxRecDepth 100000
namespace W07
open PySem L2
section
variable {P:Program} {w:World} {K:PySem.W.Frag} {mg:Str → Option Value} {base:Heap} {A:Adr}
theorem parse_ok {t:Str} {rs:List (Int × Int)} (h:parse t = some rs):RsOk rs ∧ rs.length ≤ t.length + 2:=by
  unfold parse at h
  split at h
  · cases h; exact ⟨(fun p hp=>nomatch hp),Nat.zero_le _⟩
  · split at h
    · rename_i ha
      cases h
      refine ⟨fun p hp=>?_,by rw [List.length_map]; exact words_len t⟩
      obtain ⟨wd,hw,rfl⟩:=List.mem_map.mp hp
      have hs:=List.all_eq_true.mp ha wd hw
      cases hpp:pairOf wd with
      | none=>rw [hpp] at hs; cases hs
      | some p =>
        rw [prOf_some hpp]
        exact (pair_ok hpp).2.2.2
    · cases h
theorem emp_add (x:Str):Str.empty ++ x = x:=by
  apply str_ext
  show ((Str.empty.cps) ++ x.cps).toList = _
  rw [Array.toList_append]
  rfl
theorem num_back {wd:Str} (h:figs wd = true):Str.ofString (toString (numOf wd)) = wd:=by
  obtain ⟨n,h1,h2,_⟩:=figs_num h
  unfold numOf
  rw [h1]
  exact h2.symm
theorem pair_back {wd:Str} {p:Int × Int} (h:pairOf wd = some p):pairTxt p = wd:=by
  obtain ⟨h1,h2,rfl,_⟩:=pair_ok h
  unfold pairTxt
  show Str.empty ++ Str.ofString (toString (numOf (part3 wd CO).1)) ++ CO ++ Str.ofString (toString (numOf (part3 wd CO).2.2)) = wd
  rw [num_back h1,num_back h2,emp_add]
  unfold part3 at h2 ⊢
  obtain ⟨f,hc⟩:=PySem.StrLaws.occ_chain wd CO 1
  cases ho:PySem.Builtin.Str.occurrences wd CO 0 wd.length 1 with
  | nil =>
    rw [ho] at h2
    have h2:figs Str.empty = true:=h2
    exact absurd h2 (by decide)
  | cons i r =>
    rw [ho] at hc
    show PySem.Builtin.Str.strSub wd 0 i ++ CO ++ PySem.Builtin.Str.strSub wd (i + CO.length) wd.length = wd
    rw [PySem.StrLaws.sub_cat wd CO hc.1 hc.2.1,PySem.StrLaws.sub_whole]
theorem parse_back {t:Str} {rs:List (Int × Int)} (h:parse t = some rs):writ rs = t:=by
  unfold parse at h
  split at h
  · rename_i h0
    cases h
    rw [h0]
    rfl
  · split at h
    · rename_i ha
      cases h
      have h1:1 ≤ (words t).length:=PyProof.Rows.split_pos t BL
      unfold writ
      rw [if_neg (fun e=>by rw [List.map_eq_nil_iff.mp e] at h1; cases h1),List.map_map]
      have e:(words t).map (pairTxt ∘ prOf) = words t:=by
        conv=>rhs; rw [← List.map_id (words t)]
        refine List.map_congr_left fun wd hw=>?_
        have hs:=List.all_eq_true.mp ha wd hw
        cases hpp:pairOf wd with
        | none=>rw [hpp] at hs; cases hs
        | some p =>
          show pairTxt (prOf wd) = wd
          rw [prOf_some hpp]
          exact pair_back hpp
      rw [e]
      unfold PySem.Txt.join words
      rw [PySem.StrLaws.glued_eq_join]
      exact PySem.StrLaws.join_split t BL
    · cases h
theorem dw_head {g:Nat → Bool}:∀ {l:List Nat} {c:Nat} {r:List Nat},l.dropWhile g = c :: r → g c = false
  | [],c,r,h=>nomatch h
  | x :: l,c,r,h=>by
    rw [List.dropWhile_cons] at h
    split at h
    · exact dw_head h
    · rename_i hg
      cases h
      simpa using hg
theorem dw_nil {g:Nat → Bool}:∀ {l:List Nat},l.dropWhile g = [] → l.all g = true
  | [],h=>rfl
  | x :: l,h=>by
    rw [List.dropWhile_cons] at h
    split at h
    · rename_i hg
      rw [List.all_cons,hg,dw_nil h]
      rfl
    · cases h
theorem tw_lt {g:Nat → Bool} {c:Nat} (h:g c = false):∀ l:List Nat,((l ++ [c]).takeWhile g).length ≤ l.length
  | []=>by
    show ((c :: []).takeWhile g).length ≤ 0
    rw [List.takeWhile_cons,h]
    simp
  | x :: l=>by
    show ((x :: (l ++ [c])).takeWhile g).length ≤ l.length + 1
    rw [List.takeWhile_cons]
    split
    · rw [List.length_cons]
      have:=tw_lt h l
      omega
    · exact Nat.zero_le _
theorem strip_all {x y:Str} (h1:1 ≤ x.length):decide (PySem.Txt.stripChars x y = Str.empty) = x.cps.toList.all y.cps.contains:=by
  have hn:x.cps.toList.length = x.length:=Array.length_toList
  have et:=List.takeWhile_append_dropWhile (p:=y.cps.contains) (l:=x.cps.toList)
  have el:=congrArg List.length et
  rw [List.length_append] at el
  have ed:x.cps.toList.drop (x.cps.toList.takeWhile y.cps.contains).length = x.cps.toList.dropWhile y.cps.contains:=by
    have:=List.drop_left (l₁:=x.cps.toList.takeWhile y.cps.contains) (l₂:=x.cps.toList.dropWhile y.cps.contains)
    rw [et] at this
    exact this
  have e0:∀ z:Str,z.length = 0 → z = Str.empty:=fun z hz=>str_ext (by
    have:z.cps.toList.length = 0:=by rw [Array.length_toList]; exact hz
    rw [List.eq_nil_of_length_eq_zero this]
    rfl)
  have lo:PySem.stripLo y.cps.contains true x = (x.cps.toList.takeWhile y.cps.contains).length:=rfl
  have hi:PySem.stripHi y.cps.contains true x (PySem.stripLo y.cps.contains true x) = x.length - ((x.cps.toList.dropWhile y.cps.contains).reverse.takeWhile y.cps.contains).length:=by
    rw [lo,← ed]
    rfl
  unfold PySem.Txt.stripChars PySem.Txt.stripBy
  cases hd:x.cps.toList.dropWhile y.cps.contains with
  | nil =>
    rw [dw_nil hd]
    refine decide_eq_true ?_
    rw [hd] at el hi
    have hl:PySem.stripLo y.cps.contains true x = x.length:=by rw [lo]; simpa using (el.trans hn)
    rw [if_neg]
    · apply e0
      unfold PySem.stripped
      rw [hi,hl]
      show (x.cps.extract x.length (x.length - 0)).size = 0
      rw [Array.size_extract]
      omega
    · unfold PySem.stripSame
      rw [hl]
      simp
      omega
  | cons c r =>
    have hg:=dw_head hd
    have ha:x.cps.toList.all y.cps.contains = false:=by
      rw [← et,hd,List.all_append,List.all_cons,hg,Bool.false_and,Bool.and_false]
    rw [ha]
    refine decide_eq_false fun e=>?_
    rw [hd] at el hi
    rw [List.reverse_cons] at hi
    have ht:=tw_lt hg r.reverse
    rw [List.length_reverse] at ht
    rw [List.length_cons] at el
    by_cases hs:PySem.stripSame y.cps.contains true true x = true
    · rw [if_pos hs] at e
      rw [e] at h1
      exact absurd h1 (by decide)
    · rw [if_neg hs] at e
      have:=congrArg Str.length e
      unfold PySem.stripped at this
      rw [hi,lo] at this
      have h3:(x.cps.extract (x.cps.toList.takeWhile y.cps.contains).length (x.length - ((r.reverse ++ [c]).takeWhile y.cps.contains).length)).size = 0:=this
      rw [Array.size_extract] at h3
      have hq:x.cps.size = x.length:=rfl
      omega
theorem starts0 {x:Str} {c:Nat} {r:List Nat} (h:x.cps.toList = c :: r):PySem.Txt.startswith x (Str.ofString "0") = decide (V.str ⟨#[c]⟩ = V.str (Str.ofString "0")):=by
  have hl:x.cps.toList.length = x.length:=Array.length_toList
  rw [h,List.length_cons] at hl
  have e0:(Str.ofString "0").length = 1:=by decide
  have e1:(Str.ofString "0").cps = #[48]:=by decide
  have e2:x.cps.extract 0 (0 + 1) = #[c]:=by
    apply Array.ext'
    rw [Array.toList_extract,h]
    rfl
  unfold PySem.Txt.startswith PySem.Builtin.Str.subAt
  rw [e0,decT (show 0 + 1 ≤ x.length by omega),e2,e1]
  show (true && (#[c] == #[48])) = _
  rw [Bool.true_and,Bool.eq_iff_iff,decide_eq_true_iff,beq_iff_eq]
  constructor
  · intro e
    rw [e]
    exact congrArg V.str (str_ext (by decide))
  · intro e
    have e3:=congrArg Str.cps (V.str.inj e)
    exact e3.trans e1
theorem figs_all (x:Str):x.cps.all (fun c=>decide (c ∈ FIG.cps.toList)) = x.cps.toList.all FIG.cps.contains:=by
  rw [← Array.all_toList]
  congr 1
  funext c
  rw [Bool.eq_iff_iff,decide_eq_true_iff,Array.contains_iff_mem,Array.mem_toList_iff]
def numV (x:Str):V:=if figs x = true then .int (numOf x) else .non
def sp_number:Sp:=fun vs H Q _=>∃ x:Str,vs = [.str x] ∧ x.length ≤ 10000 ∧ Q (numV x) H
theorem xbW (T:Txt K mg A):FnOk P w K mg base CX0 1 A.xcl A.xcD ["_law_text"] sp_number:=by
  refine T.xcf.ok xb6 (fun vs H Q E h=>?_) (fun cdv Ar outer s H vs Q E hr h=>?_)
  · obtain ⟨x,rfl,_⟩:=h
    rfl
  obtain ⟨wd,rfl,hl,q⟩:=h
  refine ⟨_,(@pss_cons _ _ _ _ _ (@ps_if _ _ _ _ _ _ _ _ (@PW.pt _ _ _ (@pw_or _ _ _ _ _ _ _ (@pt_cmpR _ _ _ _ _ _ _ _ op_eq (@pv _ 0 _ _ (by rfl) (Or.inl rfl) (by decide) (by decide)) (@pe_str _ _ _ _) (nomark _)) (@pw_or _ _ _ _ _ _ _ (@pt_cmpR _ _ _ _ _ _ _ _ op_gt (@pe_callB _ _ _ _ _ _ _ _ _ call_len_str rfl T.b_len B.len (@pa_consN _ _ _ _ _ (@pv _ 0 _ _ (by rfl) (Or.inl rfl) (by decide) (by decide)) (@pa_nil _) (by rfl)) (by decide) (by decide) (by rfl) (by rfl)) (@pe_int _ _ _ _) (nomark _)) (@pw_or _ _ _ _ _ _ _ (@pt_cmpR _ _ _ _ _ _ _ _ op_ne (@pe_bm _ _ _ _ _ _ _ _ _ _ _ _ PySem.F.plainAttrs_str PySem.F.slot_str_strip PySem.F.type_str_strip mt_strip (@pv _ 0 _ _ (by rfl) (Or.inl rfl) (by decide) (by decide)) (@pa_consN _ _ _ _ _ (@pe_str _ _ _ _) (@pa_nil _) (by rfl)) (by rfl) (by rfl) (by rfl) (by rfl) (by rfl)) (@pe_str _ _ _ _) (nomark _)) (@pw_or1 _ _ _ _ (@PW.pt _ _ _ (@pw_and _ _ _ _ _ _ _ (@pt_cmpR _ _ _ _ _ _ _ _ op_eq (@pe_ix _ _ _ _ _ _ _ ix_str (@pv _ 0 _ _ (by rfl) (Or.inl rfl) (by decide) (by decide)) (@pe_int _ _ _ _) (fun _ _=>rfl)) (@pe_str _ _ _ _) (nomark _)) (@pw_and1 _ _ _ _ (@pt_cmpR _ _ _ _ _ _ _ _ op_ne (@pv _ 0 _ _ (by rfl) (Or.inl rfl) (by decide) (by decide)) (@pe_str _ _ _ _) (nomark _)))))))))) (@pss_one _ _ _ (@ps_ret _ _ _ _ (@pe_non _ _ _))) (@pss_nil _)) (@pss_one _ _ _ (@ps_ret _ _ _ _ (@pe_callTy _ _ _ _ _ _ _ _ _ call_int_text rfl T.b_int B.int (@pa_consN _ _ _ _ _ (@pv _ 0 _ _ (by rfl) (Or.inl rfl) (by decide) (by decide)) (@pa_nil _) (by rfl)) (by decide) (by decide) (by rfl) (by rfl))))),?_⟩
  have hz:wd.length ≤ sizeLine:=Nat.le_trans hl (by decide)
  have hn:wd.cps.toList.length = wd.length:=Array.length_toList
  have no:figs wd = false → Q .non H:=fun e=>by
    unfold numV at q
    rw [if_neg (by rw [e]; nofun)] at q
    exact q
  refine ⟨_,rfl,rfl,_,rfl,?_⟩
  by_cases h0:wd = Str.ofString ""
  · rw [decT (show V.str wd = V.str (Str.ofString "") by rw [h0])]
    exact iteT (iteT (no (by rw [h0]; decide)))
  rw [decF (show ¬ V.str wd = V.str (Str.ofString "") from fun e=>h0 (V.str.inj e))]
  match hw:wd.cps.toList,hn with
  | [],_=>exact absurd (str_ext (hw.trans (by decide))) h0
  | c :: r,hn =>
    rw [List.length_cons] at hn
    refine iteF ⟨_,rfl,wd,rfl,hz,_,_,rfl,rfl,_,rfl,?_⟩
    by_cases h7:(7:Int) < (wd.length:Nat)
    · rw [decT h7]
      exact iteT (iteT (no (by unfold figs; rw [decF (show ¬ wd.length ≤ 7 by omega),Bool.and_false]; rfl)))
    rw [decF h7]
    refine iteF ⟨_,rfl,rfl,wd,FIG,rfl,rfl,hz,rfl,_,rfl,?_⟩
    have ea:decide (V.str (PySem.Txt.stripChars wd FIG) = V.str (Str.ofString "")) = wd.cps.all (fun c=>decide (c ∈ FIG.cps.toList)):=by
      rw [figs_all,← strip_all (y:=FIG) (show 1 ≤ wd.length by omega),Bool.eq_iff_iff,decide_eq_true_iff,decide_eq_true_iff]
      have e0:Str.ofString "" = Str.empty:=str_ext (by decide)
      rw [e0]
      exact ⟨fun e=>V.str.inj e,fun e=>by rw [e]⟩
    rw [ea]
    cases hall:wd.cps.all (fun c=>decide (c ∈ FIG.cps.toList)) with
    | false=>exact iteT (iteT (no (by unfold figs; rw [hall,Bool.false_and,Bool.and_false])))
    | true =>
      refine iteF ⟨_,rfl,wd,0,c,rfl,rfl,hz,(by rw [hw]; unfold atI ixN; simp),rfl,_,rfl,?_⟩
      rw [← starts0 hw]
      have ef:figs wd = (decide (wd = Str.ofString "0") || !PySem.Txt.startswith wd (Str.ofString "0")):=by
        unfold figs
        rw [hall,decT (show 1 ≤ wd.length by omega),decT (show wd.length ≤ 7 by omega)]
        simp
      have yes:figs wd = true → ∃ x n,[V.str wd] = [V.str x] ∧ PySem.intText? x = some n ∧ x.length ≤ 640 ∧ Q (V.int n) H:=fun e=>by
        obtain ⟨n,h1,_,h3⟩:=figs_num e
        refine ⟨wd,n,rfl,h1,by omega,?_⟩
        unfold numV numOf at q
        rw [if_pos e,h1] at q
        exact q
      cases hs:PySem.Txt.startswith wd (Str.ofString "0") with
      | false=>exact iteF (iteF ⟨_,rfl,yes (by rw [ef,hs]; simp)⟩)
      | true =>
        refine iteT ⟨_,rfl,rfl,_,rfl,?_⟩
        by_cases hz0:wd = Str.ofString "0"
        · rw [decT (show V.str wd = V.str (Str.ofString "0") by rw [hz0])]
          exact iteF ⟨_,rfl,yes (by rw [ef,decT hz0]; rfl)⟩
        · rw [decF (show ¬ V.str wd = V.str (Str.ofString "0") from fun e=>hz0 (V.str.inj e))]
          exact iteT (no (by rw [ef,hs,decF hz0]; rfl))
end
end W07
set_option Elab.async false
set_option linter.all false
set_option maxRecDepth 100000
namespace W07
open PySem L2
section
variable {P:Program} {w:World} {K:PySem.W.Frag} {mg:Str → Option Value} {base:Heap} {A:Adr}
def sp_lin:Sp:=fun vs H Q _=>∃ t:Str,vs = [.str t] ∧ t.length ≤ 10000 ∧ (∀ rs,parse t = some rs → ∀ a H',Same H H' → H a = none → PrsAt H' a rs → Q (.ref a) H') ∧ (parse t = none → ∀ H',Same H H' → Q .non H')
theorem num_nn {wd:Str} (h:figs wd = true):0 ≤ numOf wd:=by
  obtain ⟨n,h1,_⟩:=figs_num h
  unfold numOf
  rw [h1]
  exact Int.natCast_nonneg n
theorem numV_yes {x:Str} (h:figs x = true):numV x = .int (numOf x):=by unfold numV; rw [if_pos h]
theorem numV_no {x:Str} (h:figs x = false):numV x = .non:=by unfold numV; rw [if_neg (by rw [h]; nofun)]
theorem xhp (T:Txt K mg A):FnOk P w K mg base CX0 2 A.xh3 A.xib ["_law_text"] sp_lin:=by
  have xci:=xbW (P:=P) (w:=w) (base:=base) T
  refine T.xhW.ok xhz (fun vs H Q E h=>?_) (fun cdv Ar outer s H vs Q E hr h=>?_)
  · obtain ⟨t,rfl,_⟩:=h
    rfl
  obtain ⟨t,rfl,hl,q1,q2⟩:=h
  refine ⟨_,(@pss_cons _ _ _ _ _ (@ps_if _ _ _ _ _ _ _ _ (@pt_cmpR _ _ _ _ _ _ _ _ op_eq (@pv _ 0 _ _ (by rfl) (Or.inl rfl) (by decide) (by decide)) (@pe_str _ _ _ _) (nomark _)) (@pss_one _ _ _ (@ps_ret _ _ _ _ (@pe_lst _ _ _ _ (@pa_nil _)))) (@pss_nil _)) (@pss_cons _ _ _ _ _ (@ps_set _ _ (1) _ _ _ _ xhz.nd rfl (Or.inl rfl) (@pe_lst _ _ _ _ (@pa_nil _)) (by rfl) (Or.inl rfl)) (@pss_cons _ _ _ _ _ (@ps_for _ _ _ _ _ _ _ _ PassesOwn.never rfl (@pi_list _ _ _ _ (@pe_bm _ _ _ _ _ _ _ _ _ _ _ _ PySem.F.plainAttrs_str PySem.F.slot_str_split PySem.F.type_str_split mt_split (@pv _ 0 _ _ (by rfl) (Or.inl rfl) (by decide) (by decide)) (@pa_consN _ _ _ _ _ (@pe_str _ _ _ _) (@pa_nil _) (by rfl)) (by rfl) (by rfl) (by rfl) (by rfl) (by rfl))) (@pg_name _ _ (2) _ xhz.nd rfl (Or.inl rfl) (Or.inl rfl)) (@pss_cons _ _ _ _ _ (@ps_asg _ _ _ _ _ _ (@pe_bm _ _ _ _ _ _ _ _ _ _ _ _ PySem.F.plainAttrs_str PySem.F.slot_str_partition PySem.F.type_str_partition mt_partition (@pv _ 2 _ _ (by rfl) (Or.inl rfl) (by decide) (by decide)) (@pa_consN _ _ _ _ _ (@pe_str _ _ _ _) (@pa_nil _) (by rfl)) (by rfl) (by rfl) (by rfl) (by rfl) (by rfl)) (@pg_tup _ _ _ _ _ (3) rfl (@pgs_cons _ _ _ _ _ (@pg_name _ _ (3) _ xhz.nd rfl (Or.inl rfl) (Or.inl rfl)) (@pgs_cons _ _ _ _ _ (@pg_name _ _ (4) _ xhz.nd rfl (Or.inl rfl) (Or.inl rfl)) (@pgs_cons _ _ _ _ _ (@pg_name _ _ (5) _ xhz.nd rfl (Or.inl rfl) (Or.inl rfl)) (@pgs_nil _) (by rfl)) (by rfl)) (by rfl)) (by rfl) (by rfl)) (by rfl) (by rfl) (by rfl)) (@pss_cons _ _ _ _ _ (@ps_par _ _ (3) (5) _ _ _ _ _ _ _ _ _ _ _ rfl xhz.nd rfl rfl (by decide) rfl rfl (@pa_consN _ _ _ _ _ (@pe_call _ _ _ _ _ _ _ _ _ _ _ _ _ _ _ _ xci (hr.mono (by decide)) rfl T.xcW T.xcQ T.xbi .nil pass0 (@pa_consN _ _ _ _ _ (@pv _ 3 _ _ (by rfl) (Or.inl rfl) (by decide) (by decide)) (@pa_nil _) (by rfl)) (by decide) (by rfl) (by rfl)) (@pa_consN _ _ _ _ _ (@pe_call _ _ _ _ _ _ _ _ _ _ _ _ _ _ _ _ xci (hr.mono (by decide)) rfl T.xcW T.xcQ T.xbi .nil pass0 (@pa_consN _ _ _ _ _ (@pv _ 5 _ _ (by rfl) (Or.inl rfl) (by decide) (by decide)) (@pa_nil _) (by rfl)) (by decide) (by rfl) (by rfl)) (@pa_nil _) (by rfl)) (by rfl)) rfl (by rfl)) (@pss_cons _ _ _ _ _ (@ps_if _ _ _ _ _ _ _ _ (@PW.pt _ _ _ (@pw_or _ _ _ _ _ _ _ (@pt_cmpR _ _ _ _ _ _ _ _ op_isN (@pv _ 3 _ _ (by rfl) (Or.inl rfl) (by decide) (by decide)) (@pe_non _ _ _) (nomark _)) (@pw_or _ _ _ _ _ _ _ (@pt_cmpR _ _ _ _ _ _ _ _ op_isN (@pv _ 5 _ _ (by rfl) (Or.inl rfl) (by decide) (by decide)) (@pe_non _ _ _) (nomark _)) (@pw_or1 _ _ _ _ (@pt_not _ _ _ _ (@pt_chain _ _ _ _ _ _ _ _ _ _ _ _ op_lt op_lt (@pv _ 3 _ _ (by rfl) (Or.inl rfl) (by decide) (by decide)) (@pv _ 5 _ _ (by rfl) (Or.inl rfl) (by decide) (by decide)) (@pe_int _ _ _ _) (by with_unfolding_all rfl))))))) (@pss_one _ _ _ (@ps_ret _ _ _ _ (@pe_non _ _ _))) (@pss_nil _)) (@pss_one _ _ _ (@ps_expr _ _ _ _ (@pe_bm _ _ _ _ _ _ _ _ _ _ _ _ PySem.F.plainAttrs_list PySem.F.slot_list_append PySem.F.type_list_append mt_append (@pv _ 1 _ _ (by rfl) (Or.inl rfl) (by decide) (by decide)) (@pa_consN _ _ _ _ _ (@pe_tup _ _ _ _ _ (@pa_consN _ _ _ _ _ (@pv _ 3 _ _ (by rfl) (Or.inl rfl) (by decide) (by decide)) (@pa_consN _ _ _ _ _ (@pv _ 5 _ _ (by rfl) (Or.inl rfl) (by decide) (by decide)) (@pa_nil _) (by rfl)) (by rfl))) (@pa_nil _) (by rfl)) (by rfl) (by rfl) (by rfl) (by rfl) (by rfl)) (by rfl)))))) (by intro _; rfl)) (@pss_one _ _ _ (@ps_ret _ _ _ _ (@pv _ 1 _ _ (by rfl) (Or.inl rfl) (by decide) (by decide))))))),?_⟩
  have hz:t.length ≤ sizeLine:=Nat.le_trans hl (by decide)
  refine ⟨_,rfl,rfl,_,rfl,?_⟩
  by_cases h0:t = Str.ofString "-"
  · rw [decT (show V.str t = V.str (Str.ofString "-") by rw [h0])]
    exact iteT ⟨Nat.zero_le _,fun a ha=>q1 [] (by unfold parse; rw [if_pos h0]) a _ (same_new ha _) ha ⟨[],upd_same,.nil⟩⟩
  rw [decF (show ¬ V.str t = V.str (Str.ofString "-") from fun e=>h0 (V.str.inj e))]
  have hw:=words_len t
  have w12:t.length + 2 ≤ sizeLine:=Nat.le_trans (show t.length + 2 ≤ 10002 by omega) (by decide)
  refine iteF ⟨Nat.zero_le _,fun l hlf=>?_⟩
  have s1:=same_new hlf (.lst [])
  refine ⟨_,rfl,rfl,t,BL,rfl,rfl,(by decide),hz,Nat.le_trans hw w12,Nat.le_trans (parts_len t) w12,fun u huf=>?_⟩
  have s2:=same_new huf (.lst ((words t).map V.str))
  have hul:u ≠ l:=fun z=>by rw [z,upd_same] at huf; cases huf
  have bad:∀ {wd:Str},wd ∈ words t → pairOf wd = none → parse t = none:=fun {wd} hm hn=>by
    unfold parse
    rw [if_neg h0,if_neg]
    intro hall
    have:=List.all_eq_true.mp hall wd hm
    rw [hn] at this
    cases this
  refine ⟨u,rfl,⟨_,SqL.of upd_same⟩,for_list (K:=K) (a:=u) (xs:=(words t).map V.str) (fun i σ H'=>∃ (as:List Addr) (f2 f3 f4 f5:Option V),σ = [some (.str t),some (.ref l),f2,f3,f4,f5] ∧ Same H H' ∧ H' u = some (.lst ((words t).map V.str)) ∧ H' l = some (.lst (as.map V.ref)) ∧ ((words t).take i).all (fun wd=>(pairOf wd).isSome) = true ∧ Paired (fun b (p:Int × Int)=>H' b = some (.tup [.int p.1,.int p.2])) as (((words t).take i).map prOf))
    ⟨[],none,none,none,none,rfl,s1.trans s2,upd_same,s2 _ _ upd_same,rfl,.nil⟩ (fun i σ H' _ ⟨_,_,_,_,_,_,_,e,_⟩=>SqL.of e) ?_ ?_⟩
  · rintro i v σ H' hx ⟨as,f2,f3,f4,f5,rfl,sH,hU,hL,ha,hp⟩
    rw [List.getElem?_map] at hx
    cases hwd:(words t)[i]? with
    | none=>rw [hwd] at hx; cases hx
    | some wd =>
      rw [hwd] at hx
      cases hx
      have hm:wd ∈ words t:=List.mem_of_getElem? hwd
      have hwl:=Nat.le_trans (word_len hm) hl
      have hpl:=part_len wd
      refine ⟨_,rfl,rfl,wd,CO,rfl,rfl,(by decide),Nat.le_trans hwl (by decide),fun b hb=>?_⟩
      have s3:=same_new hb (.tup [.str (part3 wd CO).1,.str (part3 wd CO).2.1,.str (part3 wd CO).2.2])
      refine ⟨b,_,rfl,SqT.of upd_same,rfl,_,_,rfl,_,_,rfl,_,_,rfl,rfl,?_⟩
      refine ⟨_,rfl,_,rfl,Nat.le_trans hpl.1 hwl,_,rfl,_,rfl,Nat.le_trans hpl.2 hwl,_,_,rfl,?_⟩
      refine ⟨_,rfl,rfl,_,rfl,?_⟩
      cases hf1:figs (part3 wd CO).1 with
      | false =>
        rw [numV_no hf1]
        exact iteT (iteT (q2 (bad hm (by unfold pairOf; rw [hf1]; rfl)) _ (sH.trans s3)))
      | true =>
        rw [numV_yes hf1]
        refine iteF ⟨_,rfl,rfl,_,rfl,?_⟩
        cases hf2:figs (part3 wd CO).2.2 with
        | false =>
          rw [numV_no hf2]
          exact iteT (iteT (q2 (bad hm (by unfold pairOf; rw [hf2,Bool.and_false]; rfl)) _ (sH.trans s3)))
        | true =>
          rw [numV_yes hf2]
          have n1:=num_nn hf1
          refine iteF ⟨_,rfl,_,rfl,_,_,rfl,rfl,_,rfl,?_⟩
          have pn:restI (numOf (part3 wd CO).1) (numOf (part3 wd CO).2.2) = false → pairOf wd = none:=fun e=>by unfold pairOf; rw [e,Bool.and_false]; rfl
          generalize hna:numOf (part3 wd CO).1 = na at *
          generalize hnb:numOf (part3 wd CO).2.2 = nb at *
          by_cases h1:na < nb
          case neg =>
            rw [decF h1]
            refine iteF ⟨_,rfl,iteT (q2 (bad hm (pn ?_)) _ (sH.trans s3))⟩
            cases hr:restI na nb with
            | false=>rfl
            | true=>exact absurd (restI_of hr).2.1 h1
          rw [decT h1]
          refine iteT ⟨_,_,rfl,rfl,_,rfl,?_⟩
          by_cases h2:nb < 1000001
          case neg =>
            rw [decF h2]
            refine iteT (q2 (bad hm (pn ?_)) _ (sH.trans s3))
            cases hr:restI na nb with
            | false=>rfl
            | true=>exact absurd (restI_of hr).2.2 (by omega)
          rw [decT h2]
          have hL3:=s3 _ _ hL
          refine iteF ⟨_,rfl,.inl ⟨rfl,_,SqL.of hL3⟩,_,rfl,_,rfl,(by show 2 ≤ sizeLine; decide),fun c hc=>?_⟩
          have s4:=same_new hc (.tup [.int na,.int nb])
          have hL4:=s4 _ _ hL3
          have hcl:c ≠ l:=fun z=>by rw [z] at hc; rw [hc] at hL3; cases hL3
          have hal:=hp.length
          refine ⟨l,_,_,rfl,rfl,hL4,?_,as ++ [c],_,_,_,_,rfl,?_,?_,?_,?_,?_⟩
          · rw [List.length_map,hal,List.length_map,List.length_take]
            exact Nat.lt_of_le_of_lt (show _ ≤ 10002 by omega) (by decide)
          · intro b' o e
            rw [upd_ne (ne_of_none e hlf)]
            exact s4 _ _ (s3 _ _ (sH b' o e))
          · rw [upd_ne hul]
            exact s4 _ _ (s3 _ _ hU)
          · rw [upd_same,List.map_append]; rfl
          · rw [take_snoc hwd,List.all_append,ha]
            show (_ && ((pairOf wd).isSome && true)) = true
            unfold pairOf
            rw [hf1,hf2,hna,hnb,restI_ok ⟨n1,h1,by omega⟩]
            rfl
          · rw [take_snoc hwd,List.map_append]
            have ep:prOf wd = (na,nb):=prOf_some (by unfold pairOf; rw [hf1,hf2,hna,hnb,restI_ok ⟨n1,h1,by omega⟩]; rfl)
            refine paired_snoc (Paired.mapP hp fun b' p q=>?_) ?_
            · rw [upd_ne (ne_of (s4 _ _ (s3 _ _ q)) hL4 (by intro z; cases z))]
              exact s4 _ _ (s3 _ _ q)
            · rw [upd_ne hcl,upd_same,ep]
  · rintro σ H' ⟨as,f2,f3,f4,f5,rfl,sH,hU,hL,ha,hp⟩
    rw [List.length_map,List.take_length] at ha hp
    exact ⟨_,rfl,q1 _ (by unfold parse; rw [if_neg h0,if_pos ha]) l _ sH hlf ⟨as,hL,hp⟩⟩
end
end W07
set_option Elab.async false
set_option linter.all false
set_option maxRecDepth 100000
namespace W07
open PySem L2
section
variable {P:Program} {w:World} {K:PySem.W.Frag} {mg:Str → Option Value} {base:Heap} {A:Adr}
def sp_ref (K:PySem.W.Frag):Sp:=fun vs H Q _=>∃ v,vs = [v] ∧ ((∃ t:Str,v = .str t ∧ t.length ≤ 10000 ∧ parse t = none) ∨ NoTxt K H v) ∧ ∀ H',Same H H' → Q (.bl true) H'
theorem read_thr {v:V} {H:Hp} {E:XK} {Rr:List (Int × Int) → Prop} (hv:(∃ t:Str,v = .str t ∧ t.length ≤ 10000 ∧ parse t = none) ∨ NoTxt K H v) (thr:Thr A.xh7 H E) :
    (∃ t:Str,v = .str t ∧ t.length ≤ 10000 ∧ (∀ rs,parse t = some rs → Rr rs) ∧ (parse t = none → Thr A.xh7 H E)) ∨ (NoTxt K H v ∧ Thr A.xh7 H E):=by
  rcases hv with ⟨t,rfl,hl,hn⟩ | hn
  · exact .inl ⟨t,rfl,hl,(fun rs e=>by rw [hn] at e; cases e),fun _=>thr⟩
  · exact .inr ⟨hn,thr⟩
set_option maxHeartbeats 2000000 in
theorem xaT (T:Txt K mg A):FnOk P w K mg base CX0 7 A.xbd A.xbv ["_law_text"] (sp_ref K):=by
  have xiR:=xiL (P:=P) (w:=w) (base:=base) T
  refine T.xa7.ok xaZ (fun vs H Q E h=>?_) (fun cdv Ar outer s H vs Q E hr h=>?_)
  · obtain ⟨v,rfl,_⟩:=h
    rfl
  obtain ⟨v,rfl,hv,q⟩:=h
  refine ⟨_,(@pss_cons _ _ _ _ _ (@ps_try _ _ _ _ (1) _ _ _ _ _ _ _ _ rfl rfl rfl xaZ.nd rfl rfl rfl T.xfu (fun pins xe E hp=>(@pss_one _ _ _ (@ps_expr _ _ _ _ (@pe_call _ _ _ _ _ _ _ _ _ _ _ _ _ _ _ _ xiR (hr.mono (by decide)) rfl T.xi4 T.xi2 T.xiE .nil hp (@pa_consN _ _ _ _ _ (@pv _ 0 _ _ (by rfl) (Or.inl rfl) (by decide) (by decide)) (@pa_nil _) (by rfl)) (by decide) (by rfl) (by rfl)) (by rfl)))) (fun e=>(@pss_cons _ _ _ _ _ (@ps_set _ _ (2) _ _ _ _ xaZ.nd rfl (Or.inl rfl) (@pe_lst _ _ _ _ (@pa_consN _ _ _ _ _ (@pe_callB _ _ _ _ _ _ _ _ _ call_isexc rfl T.b_isinstance B.isinstance (@pa_consN _ _ _ _ _ (@pv _ 1 _ _ (by rfl) (Or.inl rfl) (by decide) (by decide)) (@pa_consN _ _ _ _ _ (@pe_glob _ _ (.ref _) _ _ rfl T.xhc rfl (by decide)) (@pa_nil _) (by rfl)) (by rfl)) (by decide) (by decide) (by rfl) (by rfl)) (@pa_consN _ _ _ _ _ (@pe_callB _ _ _ _ _ _ _ _ _ call_isexc rfl T.b_isinstance B.isinstance (@pa_consN _ _ _ _ _ (@pv _ 1 _ _ (by rfl) (Or.inl rfl) (by decide) (by decide)) (@pa_consN _ _ _ _ _ (@pe_glob _ _ (.ref _) _ _ rfl T.xd4 rfl (by decide)) (@pa_nil _) (by rfl)) (by rfl)) (by decide) (by decide) (by rfl) (by rfl)) (@pa_consN _ _ _ _ _ (@pe_callB _ _ _ _ _ _ _ _ _ call_isexc rfl T.b_isinstance B.isinstance (@pa_consN _ _ _ _ _ (@pv _ 1 _ _ (by rfl) (Or.inl rfl) (by decide) (by decide)) (@pa_consN _ _ _ _ _ (@pe_glob _ _ (.ref _) _ _ rfl T.xiq rfl (by decide)) (@pa_nil _) (by rfl)) (by rfl)) (by decide) (by decide) (by rfl) (by rfl)) (@pa_nil _) (by rfl)) (by rfl)) (by rfl))) (by rfl) (Or.inl rfl)) (@pss_cons _ _ _ _ _ (@ps_set _ _ (2) _ _ _ _ xaZ.nd rfl (Or.inl rfl) (@pe_op _ _ _ _ _ _ _ _ op_cat (@pv _ 2 _ _ (by rfl) (Or.inl rfl) (by decide) (by decide)) (@pe_lst _ _ _ _ (@pa_consN _ _ _ _ _ (@pe_callB _ _ _ _ _ _ _ _ _ call_isexc rfl T.b_isinstance B.isinstance (@pa_consN _ _ _ _ _ (@pv _ 1 _ _ (by rfl) (Or.inl rfl) (by decide) (by decide)) (@pa_consN _ _ _ _ _ (@pe_glob _ _ (.ref _) _ _ rfl T.xhd rfl (by decide)) (@pa_nil _) (by rfl)) (by rfl)) (by decide) (by decide) (by rfl) (by rfl)) (@pa_consN _ _ _ _ _ (@pe_callB _ _ _ _ _ _ _ _ _ call_isexc rfl T.b_isinstance B.isinstance (@pa_consN _ _ _ _ _ (@pv _ 1 _ _ (by rfl) (Or.inl rfl) (by decide) (by decide)) (@pa_consN _ _ _ _ _ (@pe_glob _ _ (.ref _) _ _ rfl T.xhe rfl (by decide)) (@pa_nil _) (by rfl)) (by rfl)) (by decide) (by decide) (by rfl) (by rfl)) (@pa_consN _ _ _ _ _ (@pe_not _ _ _ _ (@pe_callB _ _ _ _ _ _ _ _ _ call_isexc rfl T.b_isinstance B.isinstance (@pa_consN _ _ _ _ _ (@pv _ 1 _ _ (by rfl) (Or.inl rfl) (by decide) (by decide)) (@pa_consN _ _ _ _ _ (@pe_bltn _ _ (.ty "ValueError") _ _ rfl T.b_ValueError B.ValueError rfl (by decide) (by decide)) (@pa_nil _) (by rfl)) (by rfl)) (by decide) (by decide) (by rfl) (by rfl))) (@pa_nil _) (by rfl)) (by rfl)) (by rfl)))) (by rfl) (Or.inl rfl)) (@pss_one _ _ _ (@ps_ret _ _ _ _ (@pe_and _ _ _ _ _ _ _ (@pe_callB _ _ _ _ _ _ _ _ _ call_isexc rfl T.b_isinstance B.isinstance (@pa_consN _ _ _ _ _ (@pv _ 1 _ _ (by rfl) (Or.inl rfl) (by decide) (by decide)) (@pa_consN _ _ _ _ _ (@pe_glob _ _ (.ref _) _ _ rfl T.xir rfl (by decide)) (@pa_nil _) (by rfl)) (by rfl)) (by decide) (by decide) (by rfl) (by rfl)) (@pe_one _ _ _ _ _ (@pe_not _ _ _ _ (@pe_callB _ _ _ _ _ _ _ _ _ call_anyH rfl T.b_any B.any (@pa_consN _ _ _ _ _ (@pv _ 2 _ _ (by rfl) (Or.inl rfl) (by decide) (by decide)) (@pa_nil _) (by rfl)) (by decide) (by decide) (by rfl) (by rfl)))))))))) (by decide)) (@pss_one _ _ _ (@ps_ret _ _ _ _ (@pe_bl _ _ _ _)))),?_⟩
  refine ⟨_,rfl,v,rfl,read_thr hv fun ea H1 s1 hea=>⟨A.xh7,ea,rfl,rfl,T.xag,fun σ' hl=>?_⟩⟩
  have hl:σ'.length = 3:=hl
  have so:=same_new hea (exo A.xh7 ea)
  have ho:upd H1 ea (exo A.xh7 ea) ea = some (exo A.xh7 ea):=upd_same
  generalize upd H1 ea (exo A.xh7 ea) = H2 at *
  match σ',hl with
  | [x0,x1,x2],_ =>
    refine ⟨_,rfl,ea,_,_,_,_,rfl,ho,T.xgN,rfl,T.xaj,_,rfl,ea,_,_,_,_,rfl,ho,T.xgN,rfl,T.xab,_,rfl,ea,_,_,_,_,rfl,ho,T.xgN,rfl,T.xam,(by show 3 ≤ sizeLine; decide),fun l1 h1=>?_⟩
    have z1:=same_new h1 (.lst (([false,false,false]:List Bool).map V.bl))
    have ho1:=z1 _ _ ho
    refine ⟨_,rfl,_,rfl,ea,_,_,_,_,rfl,ho1,T.xgN,rfl,T.xak,_,rfl,ea,_,_,_,_,rfl,ho1,T.xgN,rfl,T.xal,_,rfl,ea,_,_,_,_,rfl,ho1,T.xgN,rfl,T.xgX,_,rfl,(by show 3 ≤ sizeLine; decide),fun l2 h2=>?_⟩
    have z2:=same_new h2 (.lst (([false,false,false]:List Bool).map V.bl))
    refine ⟨l1,l2,_,_,rfl,rfl,z2 _ _ upd_same,upd_same,(by show 6 ≤ sizeLine; decide),fun l3 h3=>?_⟩
    have z3:=same_new h3 (.lst (([false,false,false,false,false,false]:List Bool).map V.bl))
    have ho3:=z3 _ _ (z2 _ _ ho1)
    refine ⟨_,rfl,ea,_,_,_,_,rfl,ho3,T.xgN,rfl,T.xan,_,rfl,iteT ⟨_,rfl,l3,[false,false,false,false,false,false],ea,_,rfl,rfl,ho3,SqL.of upd_same,_,rfl,?_⟩⟩
    exact q _ ((((s1.trans so).trans z1).trans z2).trans z3)
end
end W07
set_option Elab.async false
set_option linter.all false
set_option maxRecDepth 100000
namespace W07
open PySem L2
section
variable {P:Program} {w:World} {K:PySem.W.Frag} {mg:Str → Option Value} {base:Heap} {A:Adr}
theorem atI_int {ns:List Int} {i:Int} (h0:0 ≤ i) (h1:i < ns.length):∃ v,v ∈ ns ∧ atI (ns.map V.int) i = some (.int v):=by
  have hl:i.toNat < ns.length:=by omega
  refine ⟨ns[i.toNat],List.getElem_mem hl,?_⟩
  have z:=atI_nat (xs:=ns.map V.int) (j:=i.toNat) (v:=.int ns[i.toNat]) (by rw [List.getElem?_map,List.getElem?_eq_getElem hl]; rfl)
  rw [show ((i.toNat:Nat):Int) = i by omega] at z
  exact z
def sp_cell_at (K:PySem.W.Frag):Sp:=fun vs H Q _=>∃ (a:Addr) (ns:List Int) (k:Int),vs = [.ref a,.int k] ∧ IntsAt K H a ns ∧ 0 ≤ k ∧ ∀ v,Q (.int v) H
theorem xbY (T:Txt K mg A):FnOk P w K mg base CX0 1 A.xbc A.xbu ["_law_script", "_law_k"] (sp_cell_at K):=by
  refine T.xa6.ok xaY (fun vs H Q E h=>?_) (fun cdv Ar outer s H vs Q E hr h=>?_)
  · obtain ⟨a,ns,k,rfl,_⟩:=h
    rfl
  obtain ⟨a,ns,k,rfl,ha,hk,q⟩:=h
  refine ⟨_,(@pss_cons _ _ _ _ _ (@ps_if _ _ _ _ _ _ _ _ (@pt_cmpR _ _ _ _ _ _ _ _ op_lt (@pv _ 1 _ _ (by rfl) (Or.inl rfl) (by decide) (by decide)) (@pe_callB _ _ _ _ _ _ _ _ _ call_len_seq rfl T.b_len B.len (@pa_consN _ _ _ _ _ (@pv _ 0 _ _ (by rfl) (Or.inl rfl) (by decide) (by decide)) (@pa_nil _) (by rfl)) (by decide) (by decide) (by rfl) (by rfl)) (nomark _)) (@pss_one _ _ _ (@ps_ret _ _ _ _ (@pe_ix _ _ _ _ _ _ _ ix_list (@pv _ 0 _ _ (by rfl) (Or.inl rfl) (by decide) (by decide)) (@pv _ 1 _ _ (by rfl) (Or.inl rfl) (by decide) (by decide)) (fun _ _=>rfl)))) (@pss_nil _)) (@pss_one _ _ _ (@ps_ret _ _ _ _ (@pe_int _ _ _ _)))),?_⟩
  refine ⟨_,rfl,_,rfl,a,_,rfl,.inl ha,_,_,rfl,rfl,_,rfl,?_⟩
  rw [List.length_map]
  by_cases h1:k < (ns.length:Int)
  · rw [decT h1]
    obtain ⟨v,_,hv⟩:=atI_int hk h1
    exact iteT ⟨_,rfl,_,rfl,a,_,_,_,rfl,rfl,ha,hv,q v⟩
  · rw [decF h1]
    exact iteF (q 0)
def sp_draw:Sp:=fun vs H Q _=>∃ c k m:Int,vs = [.int c,.int k,.int m] ∧ 0 < m ∧ ∀ v H',0 ≤ v → v < m → Same H H' → Q (.int v) H'
theorem draw_prime {i:Int} (h0:0 ≤ i) (h1:i < 16):∃ v:Int,0 < v ∧ atI (List.map V.int [1000003,1000033,1000037,1000039,1000081,1000099,1000117,1000121,1000133,1000151,1000159,1000171,1000183,1000187,1000193,1000199]) i = some (.int v):=by
  obtain ⟨p,hp,ep⟩:=atI_int (ns:=[1000003,1000033,1000037,1000039,1000081,1000099,1000117,1000121,1000133,1000151,1000159,1000171,1000183,1000187,1000193,1000199]) h0 h1
  have:∀ z ∈ ([1000003,1000033,1000037,1000039,1000081,1000099,1000117,1000121,1000133,1000151,1000159,1000171,1000183,1000187,1000193,1000199]:List Int),0 < z:=by decide
  exact ⟨p,this p hp,ep⟩
set_option maxHeartbeats 1000000 in
theorem xfI (T:Txt K mg A):FnOk P w K mg base CX0 1 A.xeE A.xe1 ["_law_cell", "_law_k", "_law_many"] sp_draw:=by
  refine T.xey.ok xeo (fun vs H Q E h=>?_) (fun cdv Ar outer s H vs Q E hr h=>?_)
  · obtain ⟨c,k,m,rfl,_⟩:=h
    rfl
  obtain ⟨c,k,m,rfl,hm,q⟩:=h
  refine ⟨_,(@pss_cons _ _ _ _ _ (@ps_set _ _ (3) _ _ _ _ xeo.nd rfl (Or.inl rfl) (@pe_tupI _ _ _ _ ([1000003,1000033,1000037,1000039,1000081,1000099,1000117,1000121,1000133,1000151,1000159,1000171,1000183,1000187,1000193,1000199]) rfl) (by rfl) (Or.inl rfl)) (@pss_one _ _ _ (@ps_ret _ _ _ _ (@pe_op _ _ _ _ _ _ _ _ op_mod (@pe_op _ _ _ _ _ _ _ _ op_mod (@pe_op _ _ _ _ _ _ _ _ op_add (@pe_op _ _ _ _ _ _ _ _ op_mul (@pv _ 0 _ _ (by rfl) (Or.inl rfl) (by decide) (by decide)) (@pe_int _ _ _ _)) (@pe_op _ _ _ _ _ _ _ _ op_mul (@pv _ 1 _ _ (by rfl) (Or.inl rfl) (by decide) (by decide)) (@pe_int _ _ _ _))) (@pe_ix _ _ _ _ _ _ _ ix_tup (@pv _ 3 _ _ (by rfl) (Or.inl rfl) (by decide) (by decide)) (@pe_op _ _ _ _ _ _ _ _ op_mod (@pv _ 1 _ _ (by rfl) (Or.inl rfl) (by decide) (by decide)) (@pe_int _ _ _ _)) (fun _ _=>rfl))) (@pv _ 2 _ _ (by rfl) (Or.inl rfl) (by decide) (by decide)))))),?_⟩
  refine ⟨(by show 16 ≤ sizeLine; decide),fun t ht=>?_⟩
  have h0:=Int.emod_nonneg k (show (16:Int) ≠ 0 by decide)
  have h1:=Int.emod_lt_of_pos k (show (0:Int) < 16 by decide)
  obtain ⟨p,hp0,ep⟩:=draw_prime h0 h1
  refine ⟨_,rfl,_,_,rfl,rfl,.inr ⟨by decide,by decide⟩,_,rfl,_,_,rfl,rfl,.inr ⟨by decide,by decide⟩,_,_,rfl,rfl,_,rfl,_,rfl,_,_,rfl,rfl,(by show (0:Int) < 16; decide),?_⟩
  refine ⟨t,_,_,_,rfl,rfl,SqT.of upd_same,ep,_,_,rfl,rfl,hp0,_,rfl,_,_,rfl,rfl,hm,?_⟩
  exact q _ _ (Int.emod_nonneg _ (by omega)) (Int.emod_lt_of_pos _ hm) (same_new ht _)
def TupAt (H:Hp) (b:Addr) (p:Int × Int):Prop:=H b = some (.tup [.int p.1,.int p.2])
theorem turns_most {k:Int} (h0:0 ≤ k) (h1:k < 4):∃ m:Int,atI (List.map V.int [12,200,1000000,30]) k = some (.int m) ∧ 12 ≤ m ∧ m ≤ 1000000:=by
  have:k = 0 ∨ k = 1 ∨ k = 2 ∨ k = 3:=by omega
  rcases this with rfl | rfl | rfl | rfl
  · exact ⟨12,rfl,by decide,by decide⟩
  · exact ⟨200,rfl,by decide,by decide⟩
  · exact ⟨1000000,rfl,by decide,by decide⟩
  · exact ⟨30,rfl,by decide,by decide⟩
theorem turns_few {k:Int} (h0:0 ≤ k) (h1:k < 15):∃ m:Int,atI (List.map V.int [1,2,4,8,3,9,27,6,12,18,36,5,10,20,60]) k = some (.int m) ∧ 1 ≤ m ∧ m ≤ 1000000:=by
  obtain ⟨v,hv,e⟩:=atI_int (ns:=[1,2,4,8,3,9,27,6,12,18,36,5,10,20,60]) h0 h1
  have:∀ z ∈ ([1,2,4,8,3,9,27,6,12,18,36,5,10,20,60]:List Int),1 ≤ z ∧ z ≤ 1000000:=by decide
  exact ⟨v,e,(this v hv).1,(this v hv).2⟩
def TsOk (ts:List Int):Prop:=∀ t ∈ ts,1 ≤ t ∧ t ≤ 1000000
def sp_turns (K:PySem.W.Frag):Sp:=fun vs H Q _=>∃ (a:Addr) (ns:List Int),vs = [.ref a] ∧ IntsAt K H a ns ∧ ns.length ≤ 63 ∧
  ∀ l ts H',TsOk ts → ts.length = ns.length → H l = none → LstAt H' l ts → Same H H' → Q (.ref l) H'
set_option maxHeartbeats 2000000 in
theorem xeg (T:Txt K mg A):FnOk P w K mg base CX0 2 A.xds A.xdM ["_law_script"] (sp_turns K):=by
  have xa9:=xbY (P:=P) (w:=w) (base:=base) T
  have xeB:=xfI (P:=P) (w:=w) (base:=base) T
  refine T.xdm.ok xde (fun vs H Q E h=>?_) (fun cdv Ar outer s H vs Q E hr h=>?_)
  · obtain ⟨a,ns,rfl,_⟩:=h
    rfl
  obtain ⟨a,ns,rfl,ha,hlen,q⟩:=h
  refine ⟨_,(@pss_cons _ _ _ _ _ (@ps_set _ _ (1) _ _ _ _ xde.nd rfl (Or.inl rfl) (@pe_call _ _ _ _ _ _ _ _ _ _ _ _ _ _ _ _ xeB (hr.mono (by decide)) rfl T.xfv T.xfo T.xdw .nil pass0 (@pa_consN _ _ _ _ _ (@pe_call _ _ _ _ _ _ _ _ _ _ _ _ _ _ _ _ xa9 (hr.mono (by decide)) rfl T.xbN T.xbH T.xax .nil pass0 (@pa_consN _ _ _ _ _ (@pv _ 0 _ _ (by rfl) (Or.inl rfl) (by decide) (by decide)) (@pa_consN _ _ _ _ _ (@pe_int _ _ _ _) (@pa_nil _) (by rfl)) (by rfl)) (by decide) (by rfl) (by rfl)) (@pa_consN _ _ _ _ _ (@pe_int _ _ _ _) (@pa_consN _ _ _ _ _ (@pe_int _ _ _ _) (@pa_nil _) (by rfl)) (by rfl)) (by rfl)) (by decide) (by rfl) (by rfl)) (by rfl) (Or.inl rfl)) (@pss_cons _ _ _ _ _ (@ps_set _ _ (2) _ _ _ _ xde.nd rfl (Or.inl rfl) (@pe_lst _ _ _ _ (@pa_nil _)) (by rfl) (Or.inl rfl)) (@pss_cons _ _ _ _ _ (@ps_for _ _ _ _ _ _ _ _ PassesOwn.never rfl (@pi_range1 _ _ _ _ _ _ rfl T.b_range (@pa_consN _ _ _ _ _ (@pe_callB _ _ _ _ _ _ _ _ _ call_len_seq rfl T.b_len B.len (@pa_consN _ _ _ _ _ (@pv _ 0 _ _ (by rfl) (Or.inl rfl) (by decide) (by decide)) (@pa_nil _) (by rfl)) (by decide) (by decide) (by rfl) (by rfl)) (@pa_nil _) (by rfl)) (by rfl)) (@pg_name _ _ (3) _ xde.nd rfl (Or.inl rfl) (Or.inl rfl)) (@pss_cons _ _ _ _ _ (@ps_set _ _ (4) _ _ _ _ xde.nd rfl (Or.inl rfl) (@pe_op _ _ _ _ _ _ _ _ op_add (@pe_int _ _ _ _) (@pe_call _ _ _ _ _ _ _ _ _ _ _ _ _ _ _ _ xeB (hr.mono (by decide)) rfl T.xfv T.xfo T.xdw .nil pass0 (@pa_consN _ _ _ _ _ (@pe_ix _ _ _ _ _ _ _ ix_list (@pv _ 0 _ _ (by rfl) (Or.inl rfl) (by decide) (by decide)) (@pv _ 3 _ _ (by rfl) (Or.inl rfl) (by decide) (by decide)) (fun _ _=>rfl)) (@pa_consN _ _ _ _ _ (@pe_op _ _ _ _ _ _ _ _ op_add (@pe_op _ _ _ _ _ _ _ _ op_mod (@pv _ 3 _ _ (by rfl) (Or.inl rfl) (by decide) (by decide)) (@pe_int _ _ _ _)) (@pe_int _ _ _ _)) (@pa_consN _ _ _ _ _ (@pe_ix _ _ _ _ _ _ _ ix_tup (@pe_tupI _ _ _ _ ([12,200,1000000,30]) rfl) (@pv _ 1 _ _ (by rfl) (Or.inl rfl) (by decide) (by decide)) (fun _ _=>rfl)) (@pa_nil _) (by rfl)) (by rfl)) (by rfl)) (by decide) (by rfl) (by rfl))) (by rfl) (Or.inl rfl)) (@pss_cons _ _ _ _ _ (@ps_if _ _ _ _ _ _ _ _ (@pt_cmpR _ _ _ _ _ _ _ _ op_eqI (@pv _ 1 _ _ (by rfl) (Or.inl rfl) (by decide) (by decide)) (@pe_int _ _ _ _) (nomark _)) (@pss_one _ _ _ (@ps_set _ _ (4) _ _ _ _ xde.nd rfl (Or.inl rfl) (@pe_ix _ _ _ _ _ _ _ ix_tup (@pe_tupI _ _ _ _ ([1,2,4,8,3,9,27,6,12,18,36,5,10,20,60]) rfl) (@pe_op _ _ _ _ _ _ _ _ op_mod (@pv _ 4 _ _ (by rfl) (Or.inl rfl) (by decide) (by decide)) (@pe_int _ _ _ _)) (fun _ _=>rfl)) (by rfl) (Or.inl rfl))) (@pss_nil _)) (@pss_one _ _ _ (@ps_expr _ _ _ _ (@pe_bm _ _ _ _ _ _ _ _ _ _ _ _ PySem.F.plainAttrs_list PySem.F.slot_list_append PySem.F.type_list_append mt_append (@pv _ 2 _ _ (by rfl) (Or.inl rfl) (by decide) (by decide)) (@pa_consN _ _ _ _ _ (@pv _ 4 _ _ (by rfl) (Or.inl rfl) (by decide) (by decide)) (@pa_nil _) (by rfl)) (by rfl) (by rfl) (by rfl) (by rfl) (by rfl)) (by rfl))))) (by intro _; rfl)) (@pss_one _ _ _ (@ps_ret _ _ _ _ (@pv _ 2 _ _ (by rfl) (Or.inl rfl) (by decide) (by decide))))))),?_⟩
  refine ⟨_,rfl,a,ns,0,rfl,ha,(by decide),fun c0=>⟨c0,6,4,rfl,(by decide),fun kind H1 k0 k1 s1=>?_⟩⟩
  refine ⟨(by show 0 ≤ sizeLine; decide),fun l hl=>?_⟩
  have s4:=s1.trans (same_new hl (.lst []))
  have hl0:H l = none:=s1.free hl
  refine ⟨_,rfl,a,_,rfl,.inl (s4.ints ha),_,rfl,?_⟩
  rw [List.length_map]
  refine ⟨by omega,by omega,?_⟩
  rw [show ((ns.length:Int)).toNat = ns.length by omega]
  refine for_range (lo:=0) (n:=ns.length) (fun i σ H'=>∃ (ts:List Int) (f1 f2:Option V),σ = [some (.ref a),some (.int kind),some (.ref l),f1,f2] ∧ Same H H' ∧ LstAt H' l ts ∧ ts.length = i ∧ TsOk ts) ⟨[],_,_,rfl,s4,upd_same,rfl,fun _ z=>nomatch z⟩ ?_ ?_
  · rintro i σ H' hi ⟨ts,f1,f2,rfl,sH,hL,hi2,hO⟩
    obtain ⟨c,hc,ec⟩:=atI_int (ns:=ns) (i:=0 + (i:Int)) (by omega) (by omega)
    obtain ⟨most,em,hm0,hm1⟩:=turns_most k0 k1
    have push:∀ (x:Int) (H5:Hp),1 ≤ x → x ≤ 1000000 → Same H' H5 → rAppend (.ref l) [.int x] H5 (fun _ H6=>∃ (ts:List Int) (f1 f2:Option V),[some (V.ref a),some (V.int kind),some (V.ref l),some (V.int (0 + (i:Int))),some (V.int x)] = [some (.ref a),some (.int kind),some (.ref l),f1,f2] ∧ Same H H6 ∧ LstAt H6 l ts ∧ ts.length = i + 1 ∧ TsOk ts):=fun x H5 x0 x1 sh=>by
      have hL5:=sh _ _ hL
      refine ⟨l,_,_,rfl,rfl,hL5,?_,ts ++ [x],_,_,rfl,?_,?_,?_,?_⟩
      · rw [List.length_map]; exact small1000 (by omega)
      · intro b o e
        rw [upd_ne (ne_of_none e hl0)]
        exact (sH.trans sh) b o e
      · show upd H5 l _ l = _
        rw [upd_same,List.map_append]; rfl
      · rw [List.length_append,hi2]; rfl
      · intro t ht
        rcases List.mem_append.mp ht with z | z
        · exact hO t z
        · rw [List.mem_singleton.mp z]; exact ⟨x0,x1⟩
    refine ⟨_,rfl,_,rfl,a,_,_,_,rfl,rfl,sH.ints ha,ec,_,rfl,_,_,rfl,rfl,(by show (0:Int) < 5; decide),_,_,rfl,rfl,?_⟩
    refine ⟨(by show 4 ≤ sizeLine; decide),fun u hu=>?_⟩
    have su:=same_new hu (.tup (List.map V.int [12,200,1000000,30]))
    refine ⟨_,rfl,u,_,_,_,rfl,rfl,SqT.of upd_same,em,c,_,most,rfl,(by omega),fun v H3 v0 v1 sv=>⟨_,_,rfl,rfl,?_⟩⟩
    have sK:=su.trans sv
    refine ⟨_,rfl,_,_,rfl,rfl,_,rfl,?_⟩
    by_cases h3:kind = 3
    · rw [decT h3]
      refine iteT ?_
      refine ⟨(by show 15 ≤ sizeLine; decide),fun u2 hu2=>?_⟩
      have sU:=sK.trans (same_new hu2 (.tup (List.map V.int [1,2,4,8,3,9,27,6,12,18,36,5,10,20,60])))
      have h0:=Int.emod_nonneg (1 + v) (show (15:Int) ≠ 0 by decide)
      have h1:=Int.emod_lt_of_pos (1 + v) (show (0:Int) < 15 by decide)
      obtain ⟨x,ex,x0,x1⟩:=turns_few h0 h1
      refine ⟨_,rfl,_,_,rfl,rfl,(by show (0:Int) < 15; decide),u2,_,_,_,rfl,rfl,SqT.of upd_same,ex,?_⟩
      refine ⟨_,rfl,.inl ⟨rfl,_,SqL.of (sU _ _ hL)⟩,_,rfl,?_⟩
      exact push x _ x0 x1 sU
    · rw [decF h3]
      refine iteF ?_
      refine ⟨_,rfl,.inl ⟨rfl,_,SqL.of (sK _ _ hL)⟩,_,rfl,?_⟩
      exact push (1 + v) _ (by omega) (by omega) sK
  · rintro σ H' ⟨ts,f1,f2,rfl,sH,hL,hi2,hO⟩
    exact ⟨_,rfl,q l ts H' hO hi2 hl0 hL sH⟩
theorem PrsAt.rep {H:Hp} {a:Addr} {rs:List (Int × Int)} (h:PrsAt H a rs):RepL K (repP K) H a rs:=by
  obtain ⟨as,h1,h2⟩:=h
  refine ⟨_,SqL.of h1,?_⟩
  clear h1
  induction h2 with
  | nil=>exact .nil
  | cons x r ih=>exact .cons ⟨_,rfl,SqT.of x⟩ ih
theorem paired_set {α β:Type} {F:α → β → Prop} {a:α} {b:β} (h:F a b):∀ {l₁:List α} {l₂:List β} (j:Nat),Paired F l₁ l₂ → Paired F (l₁.set j a) (l₂.set j b)
  | [],[],_,_=>.nil
  | [],_ :: _,_,r=>nomatch r
  | _ :: _,[],_,r=>nomatch r
  | _ :: _,_ :: _,0,.cons x r=>.cons h r
  | _ :: _,_ :: _,j + 1,.cons x r=>.cons x (paired_set h j r)
theorem rs_of {ts:List Int} (h:TsOk ts) (n:Int):RsOk (ts.map fun t=>(n % t,t)):=by
  intro p hp
  obtain ⟨t,ht,rfl⟩:=List.mem_map.mp hp
  have:=h t ht
  exact ⟨Int.emod_nonneg _ (by omega),Int.emod_lt_of_pos _ (by omega),this.2⟩
def sp_rests (K:PySem.W.Frag):Sp:=fun vs H Q _=>∃ (a:Addr) (ns:List Int),vs = [.ref a] ∧ SqX K H a (ns.map V.int) ∧ ns.length ≤ 63 ∧
  ∀ l rs H',RsOk rs → rs.length = ns.length → PrsAt H' l rs → Same H H' → Q (.ref l) H'
set_option maxHeartbeats 2000000 in
theorem xef (T:Txt K mg A):FnOk P w K mg base CX0 3 A.xdq A.xdK ["_law_script"] (sp_rests K):=by
  have xa9:=xbY (P:=P) (w:=w) (base:=base) T
  have xeB:=xfI (P:=P) (w:=w) (base:=base) T
  have xdp:=xeg (P:=P) (w:=w) (base:=base) T
  refine T.xdk.ok xdc (fun vs H Q E h=>?_) (fun cdv Ar outer s H vs Q E hr h=>?_)
  · obtain ⟨a,ns,rfl,_⟩:=h
    rfl
  obtain ⟨a,ns,rfl,ha,hlen,q⟩:=h
  refine ⟨_,(@pss_cons _ _ _ _ _ (@ps_set _ _ (1) _ _ _ _ xdc.nd rfl (Or.inr rfl) (@pe_callB _ _ _ _ _ _ _ _ _ (call_sum rfl) rfl T.b_sum B.sum (@pa_consN _ _ _ _ _ (@pe_comp0 _ _ (["_law_k", "_law_cell"]) ([none,none]) _ _ _ _ _ _ _ _ xar rfl (@pi_enumX _ _ _ _ _ _ _ _ rfl T.b_enumerate (@pa_consN _ _ _ _ _ (@pv _ 0 _ _ (by rfl) (Or.inl rfl) (by decide) (by decide)) (@pa_nil _) (by rfl)) (by rfl)) (fun z=>(@pg_tup _ _ _ _ _ (2) rfl (@pgs_cons _ _ _ _ _ (@pg_name _ _ (0) _ xar.nd rfl (Or.inl rfl) (by exact .inr rfl)) (@pgs_cons _ _ _ _ _ (@pg_name _ _ (1) _ xar.nd rfl (Or.inl rfl) (by exact .inr rfl)) (@pgs_nil _) (by rfl)) (by rfl)) (by rfl) (by rfl))) (sets_two _ _ 0 1) (by decide) (fun z=>(@pe_op _ _ _ _ _ _ _ _ op_mul (@pe_op _ _ _ _ _ _ _ _ op_mod (@pe_callB _ _ _ _ _ _ _ _ _ call_abs rfl T.b_abs B.abs (@pa_consN _ _ _ _ _ (@pv _ 1 _ _ (by rfl) (by exact .inl rfl) (by decide) (by decide)) (@pa_nil _) (by rfl)) (by decide) (by decide) (by rfl) (by rfl)) (@pe_op _ _ _ _ _ _ _ _ op_pow (@pe_int _ _ _ _) (@pe_int _ _ _ _))) (@pe_op _ _ _ _ _ _ _ _ op_add (@pv _ 0 _ _ (by rfl) (by exact .inl rfl) (by decide) (by decide)) (@pe_int _ _ _ _)))) (by intro _; rfl)) (@pa_nil _) (by rfl)) (by decide) (by decide) (by rfl) (by rfl)) (by rfl) (Or.inl rfl)) (@pss_cons _ _ _ _ _ (@ps_setComp0 _ _ (["_law_far", "_law_turn"]) ([some 1,none]) _ _ _ _ _ _ _ _ (2) _ _ _ xdc.nd rfl rfl xas rfl (@pi_list _ _ _ _ (@pe_call _ _ _ _ _ _ _ _ _ _ _ _ _ _ _ _ xdp (hr.mono (by decide)) rfl T.xd7 T.xd0 T.xct .nil pass0 (@pa_consN _ _ _ _ _ (@pv _ 0 _ _ (by rfl) (Or.inl rfl) (by decide) (by decide)) (@pa_nil _) (by rfl)) (by decide) (by rfl) (by rfl))) (fun z=>(@pg_name _ _ (1) _ xas.nd rfl (Or.inl rfl) (by exact .inr rfl))) (sets_name 1) (by decide) (fun z=>(@pe_tup _ _ _ _ _ (@pa_consN _ _ _ _ _ (@pe_op _ _ _ _ _ _ _ _ op_mod (@pv _ 0 _ _ (by rfl) (by exact .inr (.inl rfl)) (by decide) (by decide)) (@pv _ 1 _ _ (by rfl) (by exact .inl rfl) (by decide) (by decide))) (@pa_consN _ _ _ _ _ (@pv _ 1 _ _ (by rfl) (by exact .inl rfl) (by decide) (by decide)) (@pa_nil _) (by rfl)) (by rfl)))) (by rfl) (by intro _; rfl)) (@pss_cons _ _ _ _ _ (@ps_if _ _ _ _ _ _ _ _ (@PW.pt _ _ _ (@pw_and _ _ _ _ _ _ _ (@pt_cmpR _ _ _ _ _ _ _ _ (op_neL (eqty_pair (hu_of hr)) hr.units0) (@pv _ 2 _ _ (by rfl) (Or.inl rfl) (by decide) (by decide)) (@pe_lst _ _ _ _ (@pa_nil _)) (nomark _)) (@pw_and1 _ _ _ _ (@pt_cmpR _ _ _ _ _ _ _ _ op_eqI (@pe_call _ _ _ _ _ _ _ _ _ _ _ _ _ _ _ _ xeB (hr.mono (by decide)) rfl T.xfv T.xfo T.xdw .nil pass0 (@pa_consN _ _ _ _ _ (@pe_call _ _ _ _ _ _ _ _ _ _ _ _ _ _ _ _ xa9 (hr.mono (by decide)) rfl T.xbN T.xbH T.xax .nil pass0 (@pa_consN _ _ _ _ _ (@pv _ 0 _ _ (by rfl) (Or.inl rfl) (by decide) (by decide)) (@pa_consN _ _ _ _ _ (@pe_int _ _ _ _) (@pa_nil _) (by rfl)) (by rfl)) (by decide) (by rfl) (by rfl)) (@pa_consN _ _ _ _ _ (@pe_int _ _ _ _) (@pa_consN _ _ _ _ _ (@pe_int _ _ _ _) (@pa_nil _) (by rfl)) (by rfl)) (by rfl)) (by decide) (by rfl) (by rfl)) (@pe_int _ _ _ _) (nomark _))))) (@pss_cons _ _ _ _ _ (@ps_set _ _ (3) _ _ _ _ xdc.nd rfl (Or.inl rfl) (@pe_call _ _ _ _ _ _ _ _ _ _ _ _ _ _ _ _ xeB (hr.mono (by decide)) rfl T.xfv T.xfo T.xdw .nil pass0 (@pa_consN _ _ _ _ _ (@pe_call _ _ _ _ _ _ _ _ _ _ _ _ _ _ _ _ xa9 (hr.mono (by decide)) rfl T.xbN T.xbH T.xax .nil pass0 (@pa_consN _ _ _ _ _ (@pv _ 0 _ _ (by rfl) (Or.inl rfl) (by decide) (by decide)) (@pa_consN _ _ _ _ _ (@pe_int _ _ _ _) (@pa_nil _) (by rfl)) (by rfl)) (by decide) (by rfl) (by rfl)) (@pa_consN _ _ _ _ _ (@pe_int _ _ _ _) (@pa_consN _ _ _ _ _ (@pe_callB _ _ _ _ _ _ _ _ _ call_len_seq rfl T.b_len B.len (@pa_consN _ _ _ _ _ (@pv _ 2 _ _ (by rfl) (Or.inl rfl) (by decide) (by decide)) (@pa_nil _) (by rfl)) (by decide) (by decide) (by rfl) (by rfl)) (@pa_nil _) (by rfl)) (by rfl)) (by rfl)) (by decide) (by rfl) (by rfl)) (by rfl) (Or.inl rfl)) (@pss_one _ _ _ (@ps_asg _ _ _ _ _ _ (@pe_tup _ _ _ _ _ (@pa_consN _ _ _ _ _ (@pe_op _ _ _ _ _ _ _ _ op_mod (@pe_op _ _ _ _ _ _ _ _ op_add (@pe_ix _ _ _ _ _ _ _ ix_tup (@pe_ix _ _ _ _ _ _ _ ix_list (@pv _ 2 _ _ (by rfl) (Or.inl rfl) (by decide) (by decide)) (@pv _ 3 _ _ (by rfl) (Or.inl rfl) (by decide) (by decide)) (fun _ _=>rfl)) (@pe_int _ _ _ _) (fun _ _=>rfl)) (@pe_call _ _ _ _ _ _ _ _ _ _ _ _ _ _ _ _ xeB (hr.mono (by decide)) rfl T.xfv T.xfo T.xdw .nil pass0 (@pa_consN _ _ _ _ _ (@pe_call _ _ _ _ _ _ _ _ _ _ _ _ _ _ _ _ xa9 (hr.mono (by decide)) rfl T.xbN T.xbH T.xax .nil pass0 (@pa_consN _ _ _ _ _ (@pv _ 0 _ _ (by rfl) (Or.inl rfl) (by decide) (by decide)) (@pa_consN _ _ _ _ _ (@pe_int _ _ _ _) (@pa_nil _) (by rfl)) (by rfl)) (by decide) (by rfl) (by rfl)) (@pa_consN _ _ _ _ _ (@pe_int _ _ _ _) (@pa_consN _ _ _ _ _ (@pe_int _ _ _ _) (@pa_nil _) (by rfl)) (by rfl)) (by rfl)) (by decide) (by rfl) (by rfl))) (@pe_ix _ _ _ _ _ _ _ ix_tup (@pe_ix _ _ _ _ _ _ _ ix_list (@pv _ 2 _ _ (by rfl) (Or.inl rfl) (by decide) (by decide)) (@pv _ 3 _ _ (by rfl) (Or.inl rfl) (by decide) (by decide)) (fun _ _=>rfl)) (@pe_int _ _ _ _) (fun _ _=>rfl))) (@pa_consN _ _ _ _ _ (@pe_ix _ _ _ _ _ _ _ ix_tup (@pe_ix _ _ _ _ _ _ _ ix_list (@pv _ 2 _ _ (by rfl) (Or.inl rfl) (by decide) (by decide)) (@pv _ 3 _ _ (by rfl) (Or.inl rfl) (by decide) (by decide)) (fun _ _=>rfl)) (@pe_int _ _ _ _) (fun _ _=>rfl)) (@pa_nil _) (by rfl)) (by rfl))) (@pg_sub _ _ _ _ _ _ _ (@pv _ 2 _ _ (by rfl) (Or.inl rfl) (by decide) (by decide)) (@pv _ 3 _ _ (by rfl) (Or.inl rfl) (by decide) (by decide)) set_list (by intro _; rfl)) (by rfl) (by rfl) (by rfl)))) (@pss_nil _)) (@pss_one _ _ _ (@ps_ret _ _ _ _ (@pv _ 2 _ _ (by rfl) (Or.inl rfl) (by decide) (by decide))))))),?_⟩
  refine ⟨_,rfl,a,rfl,⟨_,ha⟩,comp_enum (K:=K) (a:=a) (xs:=ns.map V.int) (fun i ys H'=>Same H H' ∧ ∃ ms:List Int,ys = ms.map V.int ∧ ms.length = i) ⟨Same.refl _,[],rfl,rfl⟩ (by rw [List.length_map]; exact small100 (by omega)) ?_ ?_ ?_⟩
  · rintro i ys H' hi ⟨hs,ms,rfl,hm⟩
    exact ⟨(ha.same hs).sq,by rw [List.length_map]; exact hm⟩
  · rintro i x ys H' u hx ⟨hs,ms,rfl,hm⟩ hu
    obtain ⟨n,hn,rfl⟩:=ints_get hx
    refine ⟨u,_,rfl,SqT.of upd_same,rfl,_,_,rfl,_,_,rfl,rfl,?_⟩
    refine ⟨_,rfl,n,rfl,_,_,rfl,rfl,⟨by decide,by decide,by decide⟩,_,_,rfl,rfl,(by show (0:Int) < 10 ^ (9:Int).toNat; decide),?_⟩
    have h0:=Int.emod_nonneg (if n < 0 then -n else n) (show ((10:Int) ^ (9:Int).toNat) ≠ 0 by decide)
    have h1:=Int.emod_lt_of_pos (if n < 0 then -n else n) (show (0:Int) < ((10:Int) ^ (9:Int).toNat) by decide)
    rw [show ((10:Int) ^ (9:Int).toNat) = 1000000000 by decide] at h0 h1 ⊢
    refine ⟨_,rfl,_,_,rfl,rfl,_,_,rfl,rfl,.inl ⟨by omega,by omega⟩,hs.trans (same_new hu _),?_⟩
    exact ⟨ms ++ [_],by rw [List.map_append]; rfl,by rw [List.length_append,hm]; rfl⟩
  · rintro ys H' ⟨hs,ms,rfl,hm⟩ l hl
    have s1:=hs.trans (same_new hl (.lst (ms.map V.int)))
    refine ⟨l,ms,rfl,SqL.of upd_same,?_⟩
    generalize ms.sum = far
    refine ⟨_,rfl,a,ns,rfl,(ha.same s1).sq,hlen,fun lt ts H2 hT hTl hfr hL s2=>?_⟩
    have s12:=s1.trans s2
    refine ⟨lt,rfl,⟨_,LstAt.ints hL⟩,comp_list (K:=K) (a:=lt) (xs:=ts.map V.int) (fun i ys H'=>Same H H' ∧ LstAt H' lt ts ∧ ∃ as:List Addr,ys = as.map V.ref ∧ Paired (TupAt H') as ((ts.take i).map fun t=>(far % t,t))) ⟨s12,hL,[],rfl,.nil⟩ (by rw [List.length_map]; exact small100 (by omega)) ?_ ?_ ?_⟩
    · rintro i ys H3 hi ⟨hs3,hL3,as,rfl,hP⟩
      rw [List.length_map] at hi
      have hal:=hP.length
      rw [List.length_map,List.length_take] at hal
      exact ⟨LstAt.ints hL3,by rw [List.length_map]; omega⟩
    · rintro i x ys H3 hx ⟨hs3,hL3,as,rfl,hP⟩
      obtain ⟨t,ht,rfl⟩:=ints_get hx
      have hb:=hT t (List.mem_of_getElem? ht)
      refine ⟨_,rfl,_,rfl,_,_,rfl,rfl,(by omega),_,rfl,(by show 2 ≤ sizeLine; decide),fun u hu=>?_⟩
      have su:=same_new hu (.tup [.int (far % t),.int t])
      refine ⟨hs3.trans su,su _ _ hL3,as ++ [u],by rw [List.map_append]; rfl,?_⟩
      rw [take_snoc ht,List.map_append]
      exact paired_snoc (Paired.mapP hP fun b p z=>su _ _ z) upd_same
    · rintro ys H3 ⟨hs3,hL3,as,rfl,hP⟩ l2 hl2
      rw [List.length_map,List.take_length] at hP
      have su:=same_new hl2 (.lst (as.map V.ref))
      have hF:H l2 = none:=hs3.free hl2
      have s4:=hs3.trans su
      have hP4:Paired (TupAt (upd H3 l2 (.lst (as.map V.ref)))) as (ts.map fun t=>(far % t,t)):=Paired.mapP hP fun b p z=>su _ _ z
      have hR:=rs_of hT far
      have hRl:(ts.map fun t=>(far % t,t)).length = ns.length:=by rw [List.length_map]; exact hTl
      generalize (ts.map fun t=>(far % t,t)) = rs at hP4 hR hRl
      have hA:PrsAt (upd H3 l2 (.lst (as.map V.ref))) l2 rs:=⟨as,upd_same,hP4⟩
      refine ⟨_,rfl,(by show 0 ≤ sizeLine; decide),fun e he=>?_⟩
      have se:=same_new he (.lst [])
      have s5:=s4.trans se
      refine ⟨l2,e,rs,[],rfl,rfl,(hA.same se).rep,⟨_,SqL.of upd_same,.nil⟩,_,rfl,?_⟩
      by_cases h0:rs = []
      · rw [decT h0]
        refine iteF ?_
        exact ⟨_,rfl,q l2 rs _ hR hRl (hA.same se) s5⟩
      rw [decF h0]
      refine iteT ?_
      refine ⟨_,rfl,a,ns,1,rfl,(ha.same s5).sq,(by decide),fun c1=>⟨c1,7,2,rfl,(by decide),fun d H5 d0 d1 sd=>⟨_,_,rfl,rfl,_,rfl,?_⟩⟩⟩
      have s6:=s5.trans sd
      have s46:=se.trans sd
      by_cases h1:d = 0
      case neg =>
        rw [decF h1]
        refine iteF ?_
        exact ⟨_,rfl,q l2 rs _ hR hRl (hA.same s46) s6⟩
      rw [decT h1]
      refine iteT ?_
      have hA6:=hA.same s46
      obtain ⟨as6,hL6,hP6⟩:=id hA6
      have hal6:=hP6.length
      have hpos:0 < rs.length:=by
        cases rs with
        | nil=>exact absurd rfl h0
        | cons=>rw [List.length_cons]; omega
      refine ⟨_,rfl,a,ns,2,rfl,(ha.same s6).sq,(by decide),fun c2=>⟨_,rfl,l2,_,rfl,.inl (SqL.of hL6),c2,1,_,rfl,(by rw [List.length_map,hal6]; omega),fun k H6 k0 k1 sk=>?_⟩⟩
      rw [List.length_map,hal6] at k1
      have s7:=s6.trans sk
      have hk:k.toNat < rs.length:=by omega
      have ek:((k.toNat:Nat):Int) = k:=by omega
      have hxs:(as6.map V.ref)[k.toNat]? = some (.ref (as6[k.toNat]'(by omega))):=by rw [List.getElem?_map,List.getElem?_eq_getElem (by omega)]; rfl
      obtain ⟨b,r,eb,hb,hr',hq⟩:=prs_get hP6 hxs
      have ea:=atI_nat hxs
      rw [ek,eb] at ea
      have hrO:=hR r (List.mem_of_getElem? hr')
      have hq6:=sk _ _ hq
      have hL7:=sk _ _ hL6
      refine ⟨_,rfl,_,rfl,l2,_,_,_,rfl,rfl,SqL.of hL7,ea,b,_,_,_,rfl,rfl,SqT.of hq6,rfl,?_⟩
      refine ⟨_,rfl,a,ns,3,rfl,(ha.same s7).sq,(by decide),fun c3=>⟨c3,2,7,rfl,(by decide),fun d3 H7 e0 e1 s8'=>⟨_,_,rfl,rfl,?_⟩⟩⟩
      have s8:=s7.trans s8'
      have hq7:=s8' _ _ hq6
      have hL8:=s8' _ _ hL7
      refine ⟨_,rfl,_,rfl,l2,_,_,_,rfl,rfl,SqL.of hL8,ea,b,_,_,_,rfl,rfl,SqT.of hq7,rfl,_,_,rfl,rfl,(by omega),?_⟩
      refine ⟨_,rfl,_,rfl,l2,_,_,_,rfl,rfl,SqL.of hL8,ea,b,_,_,_,rfl,rfl,SqT.of hq7,rfl,?_⟩
      refine ⟨(by show 2 ≤ sizeLine; decide),fun u hu=>?_⟩
      have s9':=same_new hu (.tup [.int ((r.1 + d3) % r.2),.int r.2])
      have hL9:=s9' _ _ hL8
      have hix:ixN (as6.map V.ref).length k = some k.toNat:=by
        unfold ixN
        rw [if_pos k0,if_pos (by rw [List.length_map,hal6]; omega)]
      refine ⟨_,rfl,_,rfl,l2,_,_,k.toNat,rfl,rfl,hL9,hix,_,rfl,?_⟩
      have hP9:Paired (TupAt (upd H7 u (.tup [.int ((r.1 + d3) % r.2),.int r.2]))) as6 rs:=Paired.mapP hP6 fun b p z=>s9' _ _ (s8' _ _ (sk _ _ z))
      have hu9:TupAt (upd H7 u (.tup [.int ((r.1 + d3) % r.2),.int r.2])) u ((r.1 + d3) % r.2,r.2):=upd_same
      have hP10:=paired_set hu9 k.toNat hP9
      refine q l2 (rs.set k.toNat ((r.1 + d3) % r.2,r.2)) _ ?_ (by rw [List.length_set]; exact hRl) ⟨as6.set k.toNat u,?_,?_⟩ ?_
      · intro p hp
        rcases List.mem_or_eq_of_mem_set hp with z | z
        · exact hR p z
        · rw [z]
          exact ⟨Int.emod_nonneg _ (by omega),Int.emod_lt_of_pos _ (by omega),hrO.2.2⟩
      · rw [upd_same,List.map_set]
      · refine Paired.mapP hP10 fun b p z=>?_
        have z':upd H7 u (.tup [.int ((r.1 + d3) % r.2),.int r.2]) b = some (.tup [.int p.1,.int p.2]):=z
        show upd _ l2 _ b = _
        rw [upd_ne]
        · exact z'
        · rintro rfl
          rw [hL9] at z'
          cases z'
      · intro b o e
        rw [upd_ne (ne_of_none e hF)]
        exact (s8.trans s9') b o e
end
end W07
set_option Elab.async false
set_option linter.all false
set_option maxRecDepth 100000
namespace W07
open PySem L2
section
variable {P:Program} {w:World} {K:PySem.W.Frag} {mg:Str → Option Value} {base:Heap} {A:Adr}
def sp_right:Sp:=fun vs H Q _=>∃ t:Str,vs = [.str t] ∧ t.length ≤ 10000 ∧ ∀ H',Same H H' → Q (.bl true) H'
theorem xc5 (T:Txt K mg A):FnOk P w K mg base CX0 8 A.xdr A.xdL ["_law_text"] sp_right:=by
  have xiR:=xiL (P:=P) (w:=w) (base:=base) T
  have xh1:=xhr (P:=P) (w:=w) (base:=base) T
  have xhZ:=xhp (P:=P) (w:=w) (base:=base) T
  have xba:=xaT (P:=P) (w:=w) (base:=base) T
  refine T.xdl.ok xdd (fun vs H Q E h=>?_) (fun cdv Ar outer s H vs Q E hr h=>?_)
  · obtain ⟨t,rfl,_⟩:=h
    rfl
  obtain ⟨t,rfl,hl,q⟩:=h
  refine ⟨_,(@pss_cons _ _ _ _ _ (@ps_set _ _ (1) _ _ _ _ xdd.nd rfl (Or.inl rfl) (@pe_call _ _ _ _ _ _ _ _ _ _ _ _ _ _ _ _ xhZ (hr.mono (by decide)) rfl T.xis T.xik T.xgp .nil pass0 (@pa_consN _ _ _ _ _ (@pv _ 0 _ _ (by rfl) (Or.inl rfl) (by decide) (by decide)) (@pa_nil _) (by rfl)) (by decide) (by rfl) (by rfl)) (by rfl) (Or.inl rfl)) (@pss_cons _ _ _ _ _ (@ps_if _ _ _ _ _ _ _ _ (@pt_cmpR _ _ _ _ _ _ _ _ op_isN (@pv _ 1 _ _ (by rfl) (Or.inl rfl) (by decide) (by decide)) (@pe_non _ _ _) (nomark _)) (@pss_one _ _ _ (@ps_ret _ _ _ _ (@pe_call _ _ _ _ _ _ _ _ _ _ _ _ _ _ _ _ xba (hr.mono (by decide)) rfl T.xbO T.xbI T.xay .nil pass0 (@pa_consN _ _ _ _ _ (@pv _ 0 _ _ (by rfl) (Or.inl rfl) (by decide) (by decide)) (@pa_nil _) (by rfl)) (by decide) (by rfl) (by rfl)))) (@pss_nil _)) (@pss_cons _ _ _ _ _ (@ps_set _ _ (2) _ _ _ _ xdd.nd rfl (Or.inl rfl) (@pe_call _ _ _ _ _ _ _ _ _ _ _ _ _ _ _ _ xiR (hr.mono (by decide)) rfl T.xi4 T.xi2 T.xiE .nil passNo (@pa_consN _ _ _ _ _ (@pv _ 0 _ _ (by rfl) (Or.inl rfl) (by decide) (by decide)) (@pa_nil _) (by rfl)) (by decide) (by rfl) (by rfl)) (by rfl) (Or.inl rfl)) (@pss_cons _ _ _ _ _ (@ps_if _ _ _ _ _ _ _ _ (@PW.pt _ _ _ (@pw_or _ _ _ _ _ _ _ (@pt_not _ _ _ _ (@pt_val _ _ _ (@pe_callB _ _ _ _ _ _ _ _ _ call_isinst rfl T.b_isinstance B.isinstance (@pa_consN _ _ _ _ _ (@pv _ 2 _ _ (by rfl) (Or.inl rfl) (by decide) (by decide)) (@pa_consN _ _ _ _ _ (@pe_bltn _ _ (.ty "list") _ _ rfl T.b_list B.list rfl (by decide) (by decide)) (@pa_nil _) (by rfl)) (by rfl)) (by decide) (by decide) (by rfl) (by rfl)) (by intro _; rfl))) (@pw_or _ _ _ _ _ _ _ (@pt_cmpR _ _ _ _ _ _ _ _ (op_neL (eqty_pair (hu_of hr)) hr.units0) (@pv _ 2 _ _ (by rfl) (Or.inl rfl) (by decide) (by decide)) (@pv _ 1 _ _ (by rfl) (Or.inl rfl) (by decide) (by decide)) (nomark _)) (@pw_or1 _ _ _ _ (@pt_cmpR _ _ _ _ _ _ _ _ op_ne (@pe_call _ _ _ _ _ _ _ _ _ _ _ _ _ _ _ _ xh1 (hr.mono (by decide)) rfl T.xiu T.xim T.xgr .nil passNo (@pa_consN _ _ _ _ _ (@pv _ 2 _ _ (by rfl) (Or.inl rfl) (by decide) (by decide)) (@pa_nil _) (by rfl)) (by decide) (by rfl) (by rfl)) (@pv _ 0 _ _ (by rfl) (Or.inl rfl) (by decide) (by decide)) (nomark _)))))) (@pss_one _ _ _ (@ps_ret _ _ _ _ (@pe_bl _ _ _ _))) (@pss_nil _)) (@pss_cons _ _ _ _ _ (@ps_expr _ _ _ _ (@pe_bm _ _ _ _ _ _ _ _ _ _ _ _ PySem.F.plainAttrs_list PySem.F.slot_list_append PySem.F.type_list_append mt_append (@pv _ 2 _ _ (by rfl) (Or.inl rfl) (by decide) (by decide)) (@pa_consN _ _ _ _ _ (@pe_tup _ _ _ _ _ (@pa_consN _ _ _ _ _ (@pe_int _ _ _ _) (@pa_consN _ _ _ _ _ (@pe_int _ _ _ _) (@pa_nil _) (by rfl)) (by rfl))) (@pa_nil _) (by rfl)) (by rfl) (by rfl) (by rfl) (by rfl) (by rfl)) (by rfl)) (@pss_one _ _ _ (@ps_ret _ _ _ _ (@pe_cmpR _ _ _ _ _ _ _ _ (op_eqL (eqty_pair (hu_of hr)) hr.units0) (@pe_call _ _ _ _ _ _ _ _ _ _ _ _ _ _ _ _ xiR (hr.mono (by decide)) rfl T.xi4 T.xi2 T.xiE .nil passNo (@pa_consN _ _ _ _ _ (@pv _ 0 _ _ (by rfl) (Or.inl rfl) (by decide) (by decide)) (@pa_nil _) (by rfl)) (by decide) (by rfl) (by rfl)) (@pv _ 1 _ _ (by rfl) (Or.inl rfl) (by decide) (by decide)) (nomark _))))))))),?_⟩
  refine ⟨_,rfl,t,rfl,hl,fun rs hp due H1 s1 hdf hD=>?_,fun hn H1 s1=>?_⟩
  case refine_2 =>
    refine ⟨_,rfl,rfl,_,rfl,?_⟩
    rw [decT rfl]
    exact iteT ⟨_,rfl,_,rfl,.inl ⟨t,rfl,hl,hn⟩,fun H2 s2=>q _ (s1.trans s2)⟩
  refine ⟨_,rfl,rfl,_,rfl,?_⟩
  rw [decF (show ¬ V.ref due = V.non from nofun)]
  have nn:∀ {Pp:Prop},parse t = none → Pp:=fun e=>by rw [hp] at e; cases e
  refine iteF ⟨_,rfl,_,rfl,.inl ⟨t,rfl,hl,fun rs' e a H2 s2 ha hA=>?_,fun e=>nn e⟩⟩
  rw [hp] at e
  cases e
  obtain ⟨hO,hlen⟩:=parse_ok hp
  obtain ⟨as,hS,hP⟩:=id hA
  refine ⟨_,rfl,_,_,_,_,_,rfl,TyOf.lst hS,rfl,T.is_list_list,_,rfl,iteF ?_⟩
  refine ⟨_,rfl,_,rfl,a,due,rs,rs,rfl,rfl,PrsAt.rep hA,PrsAt.rep (hD.same s2),_,rfl,?_⟩
  rw [decT rfl]
  refine iteF ⟨_,rfl,a,rs,rfl,hA,hO,by omega,fun H3 s3=>⟨_,rfl,rfl,_,rfl,?_⟩⟩
  rw [decT (show V.str (writ rs) = V.str t by rw [parse_back hp])]
  have hS3:=s3 _ _ hS
  refine iteF ⟨_,rfl,.inl ⟨rfl,_,SqL.of hS3⟩,(by show 2 ≤ sizeLine; decide),fun c hc=>⟨a,_,_,rfl,rfl,same_new hc _ _ _ hS3,?_,?_⟩⟩
  · rw [List.length_map,hP.length]
    exact Nat.lt_of_le_of_lt (show _ ≤ 10002 by omega) (by decide)
  have s4:=same_new hc (.tup [.int 0,.int 1])
  have s14:Same H1 (upd (upd H3 c (.tup [.int 0,.int 1])) a (.lst (as.map V.ref ++ [.ref c]))):=fun b o e=>by
    rw [upd_ne (ne_of_none e ha)]
    exact s4 _ _ (s3 _ _ (s2 _ _ e))
  refine ⟨_,rfl,_,rfl,.inl ⟨t,rfl,hl,fun rs' e a2 H5 s5 ha2 hA2=>?_,fun e=>nn e⟩⟩
  rw [hp] at e
  cases e
  refine ⟨_,rfl,a2,due,rs,rs,rfl,rfl,PrsAt.rep hA2,PrsAt.rep (hD.same (s14.trans s5)),?_⟩
  rw [decT rfl]
  exact q _ (s1.trans (s14.trans s5))
end
end W07
set_option Elab.async false
set_option linter.all false
set_option maxRecDepth 100000
namespace W07
open PySem L2
section
variable {P:Program} {w:World} {K:PySem.W.Frag} {mg:Str → Option Value} {base:Heap} {A:Adr}
def Mks (σ:St) (F:Hp → V → Prop) (te:TE):Prop:=∀ H (KK:VK),(∀ x H',Same H H' → F H' x → KK x H') → te σ H KK
def MksA (σ:St) (F:Hp → V → Prop) (n:Nat) (ta:TA):Prop:=∀ H (KK:List V → Hp → Prop),(∀ xs H',Same H H' → (∀ x ∈ xs,F H' x) → xs.length = n → KK xs H') → ta σ H KK
section
variable {σ:St} {F:Hp → V → Prop} {te t1 t2:TE} {ta:TA} {v v1 v2:V} {n:Nat} {o p:Option Int}
theorem mks_nil:MksA σ F 0 tNil:=fun H KK h=>h [] H (Same.refl H) (fun _ z=>nomatch z) rfl
theorem mks_cons (hF:∀ {H H':Hp} {x:V},Same H H' → F H x → F H' x) (h1:Mks σ F te) (h2:MksA σ F n ta):MksA σ F (n + 1) (tCons te ta):=fun H KK h =>
  h1 H _ fun x H1 s1 hx=>h2 H1 _ fun xs H2 s2 hxs hl=>h (x :: xs) H2 (s1.trans s2) (fun y hy=>(List.mem_cons.mp hy).elim (fun e=>e ▸ hF s2 hx) (hxs y)) (by rw [List.length_cons,hl])
theorem mks_lst (h:MksA σ F n ta) (hn:n ≤ 200) {H:Hp} {KK:VK} (k:∀ l xs H',Same H H' → H l = none → H' l = some (.lst xs) → (∀ x ∈ xs,F H' x) → xs.length = n → KK (.ref l) H') (hF:∀ {H H':Hp} {x:V},Same H H' → F H x → F H' x):tLst ta σ H KK :=
  h H _ fun xs H1 s1 hx hl=>⟨small100 (by omega),fun l hl2=>k l xs _ (s1.trans (same_new hl2 _)) (s1.free hl2) upd_same (fun x hm=>hF (same_new hl2 _) (hx x hm)) hl⟩
end
theorem asg_lst {k n:Nat} {ta:TA} {R:TS} {D:Ends} {σ:St} {H:Hp} {F:Hp → V → Prop} (hF:∀ {H H':Hp} {x:V},Same H H' → F H x → F H' x) (h:MksA σ F n ta) (hn:n ≤ 200)
    (hk:∀ l xs H',Same H H' → H l = none → H' l = some (.lst xs) → (∀ x ∈ xs,F H' x) → xs.length = n → R D (σ.set k (some (.ref l))) H'):tSeq (tAsg (tLst ta) (gName k)) R D σ H:=by
  show tLst ta σ H (fun x H1=>R D (σ.set k (some x)) H1)
  exact mks_lst h hn hk hF
theorem cat_lst {i k n:Nat} {ta:TA} {R:TS} {D:Ends} {σ:St} {H:Hp} {F:Hp → V → Prop} {l1:Addr} {xs1:List V} (hF:∀ {H H':Hp} {x:V},Same H H' → F H x → F H' x) (hi:σ[i]? = some (some (.ref l1))) (h1:H l1 = some (.lst xs1)) (hx1:∀ x ∈ xs1,F H x) (hl1:xs1.length ≤ 200)
    (h:MksA σ F n ta) (hn:n ≤ 200) (hk:∀ l xs2 H1,Same H H1 → H1 l = none → (∀ x ∈ xs1 ++ xs2,F H1 x) → xs2.length = n → R D (σ.set k (some (.ref l))) (upd H1 l (.lst (xs1 ++ xs2)))):tSeq (tAsg (tOp rCat (tVar i) (tLst ta)) (gName k)) R D σ H :=
  show ∃ v,σ[i]? = some (some v) ∧ tLst ta σ H (fun y H2=>rCat v y H2 fun x H1=>R D (σ.set k (some x)) H1) from
  ⟨_,hi,mks_lst h hn (fun l2 xs2 H1 s1 _ e2 hx2 hl2=>⟨l1,l2,xs1,xs2,rfl,rfl,s1 _ _ h1,e2,small100 (by omega),fun l hl=>hk l xs2 H1 s1 hl (fun x hx=>(List.mem_append.mp hx).elim (fun z=>hF s1 (hx1 x z)) (hx2 x)) hl2⟩) hF⟩
def IsT (_:Hp) (v:V):Prop:=∃ x:Str,v = .str x ∧ x.length ≤ 10000
theorem hFT {H H':Hp} {x:V} (e:Same H H') (h:IsT H x):IsT H' x:=h
theorem mt_c {σ:St} {x:Str} (h:x.length ≤ 10000):Mks σ IsT (tC (.str x)):=fun H KK k=>k _ H (Same.refl H) ⟨x,rfl,h⟩
def sp_few:Sp:=fun vs H Q _=>vs = [] ∧ ∀ l xs H',Same H H' → H' l = some (.lst xs) → (∀ x ∈ xs,IsT H' x) → xs.length ≤ 100 → Q (.ref l) H'
def nines:Str:=⟨(List.replicate (4000:Int).toNat (Str.ofString "9").cps).foldl (· ++ ·) #[]⟩
theorem nines_len:nines.length = 4000:=by
  show ((List.replicate (4000:Int).toNat (Str.ofString "9").cps).foldl (· ++ ·) #[]).size = 4000
  rw [size_rep]
  have:(Str.ofString "9").cps.size = 1:=by decide
  rw [this]
  rfl
theorem xfF (T:Txt K mg A):FnOk P w K mg base CX0 1 A.xgi A.xgG [] sp_few:=by
  refine T.xgb.ok xfP (fun vs H Q E h=>?_) (fun cdv Ar outer s H vs Q E hr h=>?_)
  · obtain ⟨rfl,_⟩:=h
    rfl
  obtain ⟨rfl,q⟩:=h
  refine ⟨_,(@pss_cons _ _ _ _ _ (@ps_set _ _ (0) _ _ _ _ xfP.nd rfl (Or.inl rfl) (@pe_lst _ _ _ _ (@pa_consN _ _ _ _ _ (@pe_str _ _ _ _) (@pa_consN _ _ _ _ _ (@pe_str _ _ _ _) (@pa_consN _ _ _ _ _ (@pe_str _ _ _ _) (@pa_consN _ _ _ _ _ (@pe_str _ _ _ _) (@pa_consN _ _ _ _ _ (@pe_str _ _ _ _) (@pa_consN _ _ _ _ _ (@pe_str _ _ _ _) (@pa_consN _ _ _ _ _ (@pe_str _ _ _ _) (@pa_consN _ _ _ _ _ (@pe_str _ _ _ _) (@pa_consN _ _ _ _ _ (@pe_str _ _ _ _) (@pa_consN _ _ _ _ _ (@pe_str _ _ _ _) (@pa_consN _ _ _ _ _ (@pe_str _ _ _ _) (@pa_consN _ _ _ _ _ (@pe_str _ _ _ _) (@pa_consN _ _ _ _ _ (@pe_str _ _ _ _) (@pa_consN _ _ _ _ _ (@pe_str _ _ _ _) (@pa_consN _ _ _ _ _ (@pe_str _ _ _ _) (@pa_consN _ _ _ _ _ (@pe_str _ _ _ _) (@pa_nil _) (by rfl)) (by rfl)) (by rfl)) (by rfl)) (by rfl)) (by rfl)) (by rfl)) (by rfl)) (by rfl)) (by rfl)) (by rfl)) (by rfl)) (by rfl)) (by rfl)) (by rfl)) (by rfl))) (by rfl) (Or.inl rfl)) (@pss_cons _ _ _ _ _ (@ps_set _ _ (0) _ _ _ _ xfP.nd rfl (Or.inl rfl) (@pe_op _ _ _ _ _ _ _ _ op_cat (@pv _ 0 _ _ (by rfl) (Or.inl rfl) (by decide) (by decide)) (@pe_lst _ _ _ _ (@pa_consN _ _ _ _ _ (@pe_str _ _ _ _) (@pa_nil _) (by rfl)))) (by rfl) (Or.inl rfl)) (@pss_cons _ _ _ _ _ (@ps_set _ _ (0) _ _ _ _ xfP.nd rfl (Or.inl rfl) (@pe_op _ _ _ _ _ _ _ _ op_cat (@pv _ 0 _ _ (by rfl) (Or.inl rfl) (by decide) (by decide)) (@pe_lst _ _ _ _ (@pa_consN _ _ _ _ _ (@pe_str _ _ _ _) (@pa_consN _ _ _ _ _ (@pe_str _ _ _ _) (@pa_consN _ _ _ _ _ (@pe_str _ _ _ _) (@pa_consN _ _ _ _ _ (@pe_str _ _ _ _) (@pa_consN _ _ _ _ _ (@pe_str _ _ _ _) (@pa_consN _ _ _ _ _ (@pe_str _ _ _ _) (@pa_consN _ _ _ _ _ (@pe_str _ _ _ _) (@pa_consN _ _ _ _ _ (@pe_str _ _ _ _) (@pa_nil _) (by rfl)) (by rfl)) (by rfl)) (by rfl)) (by rfl)) (by rfl)) (by rfl)) (by rfl)))) (by rfl) (Or.inl rfl)) (@pss_cons _ _ _ _ _ (@ps_set _ _ (0) _ _ _ _ xfP.nd rfl (Or.inl rfl) (@pe_op _ _ _ _ _ _ _ _ op_cat (@pv _ 0 _ _ (by rfl) (Or.inl rfl) (by decide) (by decide)) (@pe_lst _ _ _ _ (@pa_consN _ _ _ _ _ (@pe_str _ _ _ _) (@pa_consN _ _ _ _ _ (@pe_str _ _ _ _) (@pa_nil _) (by rfl)) (by rfl)))) (by rfl) (Or.inl rfl)) (@pss_cons _ _ _ _ _ (@ps_set _ _ (0) _ _ _ _ xfP.nd rfl (Or.inl rfl) (@pe_op _ _ _ _ _ _ _ _ op_cat (@pv _ 0 _ _ (by rfl) (Or.inl rfl) (by decide) (by decide)) (@pe_lst _ _ _ _ (@pa_consN _ _ _ _ _ (@pe_str _ _ _ _) (@pa_consN _ _ _ _ _ (@pe_str _ _ _ _) (@pa_consN _ _ _ _ _ (@pe_str _ _ _ _) (@pa_consN _ _ _ _ _ (@pe_str _ _ _ _) (@pa_consN _ _ _ _ _ (@pe_str _ _ _ _) (@pa_consN _ _ _ _ _ (@pe_str _ _ _ _) (@pa_consN _ _ _ _ _ (@pe_str _ _ _ _) (@pa_consN _ _ _ _ _ (@pe_str _ _ _ _) (@pa_nil _) (by rfl)) (by rfl)) (by rfl)) (by rfl)) (by rfl)) (by rfl)) (by rfl)) (by rfl)))) (by rfl) (Or.inl rfl)) (@pss_one _ _ _ (@ps_ret _ _ _ _ (@pe_op _ _ _ _ _ _ _ _ op_cat (@pv _ 0 _ _ (by rfl) (Or.inl rfl) (by decide) (by decide)) (@pe_lst _ _ _ _ (@pa_consN _ _ _ _ _ (@pe_op _ _ _ _ _ _ _ _ op_add_str (@pe_op _ _ _ _ _ _ _ _ op_mulS (@pe_str _ _ _ _) (@pe_int _ _ _ _)) (@pe_str _ _ _ _)) (@pa_consN _ _ _ _ _ (@pe_op _ _ _ _ _ _ _ _ op_add_str (@pe_str _ _ _ _) (@pe_op _ _ _ _ _ _ _ _ op_mulS (@pe_str _ _ _ _) (@pe_int _ _ _ _))) (@pa_nil _) (by rfl)) (by rfl))))))))))),?_⟩
  refine asg_lst (F:=IsT) hFT (n:=16) (by repeat (first | exact mks_nil | refine mks_cons (F:=IsT) hFT (mt_c (by decide)) ?_)) (by decide) fun l1 xs1 H1 s1 _ e1 h1 n1=>?_
  refine cat_lst (F:=IsT) hFT (n:=1) rfl e1 h1 (by omega) (by repeat (first | exact mks_nil | refine mks_cons (F:=IsT) hFT (mt_c (by decide)) ?_)) (by decide) fun l2 xs2 H2 s2 f2 h2 n2=>?_
  have L2:(xs1 ++ xs2).length = 17:=by rw [List.length_append]; omega
  generalize xs1 ++ xs2 = ys2 at *
  have z2:=same_new f2 (.lst ys2)
  refine cat_lst (F:=IsT) hFT (n:=8) rfl upd_same h2 (by omega) (by repeat (first | exact mks_nil | refine mks_cons (F:=IsT) hFT (mt_c (by decide)) ?_)) (by decide) fun l3 xs3 H3 s3 f3 h3 n3=>?_
  have L3:(ys2 ++ xs3).length = 25:=by rw [List.length_append]; omega
  generalize ys2 ++ xs3 = ys3 at *
  have z3:=same_new f3 (.lst ys3)
  refine cat_lst (F:=IsT) hFT (n:=2) rfl upd_same h3 (by omega) (by repeat (first | exact mks_nil | refine mks_cons (F:=IsT) hFT (mt_c (by decide)) ?_)) (by decide) fun l4 xs4 H4 s4 f4 h4 n4=>?_
  have L4:(ys3 ++ xs4).length = 27:=by rw [List.length_append]; omega
  generalize ys3 ++ xs4 = ys4 at *
  have z4:=same_new f4 (.lst ys4)
  refine cat_lst (F:=IsT) hFT (n:=8) rfl upd_same h4 (by omega) (by repeat (first | exact mks_nil | refine mks_cons (F:=IsT) hFT (mt_c (by decide)) ?_)) (by decide) fun l5 xs5 H5 s5 f5 h5 n5=>?_
  have L5:(ys4 ++ xs5).length = 35:=by rw [List.length_append]; omega
  generalize ys4 ++ xs5 = ys5 at *
  have z5:=same_new f5 (.lst ys5)
  have nl:=nines_len
  have l9:(Str.ofString "9").length = 1:=by decide
  have lc:(Str.ofString ":1").length = 2:=by decide
  have l0:(Str.ofString "0:").length = 2:=by decide
  refine ⟨_,rfl,Str.ofString "9", 4000,rfl,rfl,⟨by decide,by decide⟩,⟨by rw [l9]; decide,by rw [l9]; decide⟩,?_⟩
  show ∃ i j,V.str nines = V.str i ∧ V.str (Str.ofString ":1") = V.str j ∧ _
  refine ⟨nines,_,rfl,rfl,by rw [nl,lc]; decide,Str.ofString "9", 4000,rfl,rfl,⟨by decide,by decide⟩,⟨by rw [l9]; decide,by rw [l9]; decide⟩,?_⟩
  show ∃ i j,V.str (Str.ofString "0:") = V.str i ∧ V.str nines = V.str j ∧ _
  refine ⟨_,nines,rfl,rfl,by rw [nl,l0]; decide,(by show 2 ≤ sizeLine; decide),fun l6 f6=>?_⟩
  have z6:=same_new f6 (.lst [.str (nines ++ Str.ofString ":1"),.str (Str.ofString "0:" ++ nines)])
  refine ⟨l5,l6,_,_,rfl,rfl,z6 _ _ upd_same,upd_same,small100 (by rw [L5]; decide),fun l7 f7=>?_⟩
  refine q l7 _ _ ((((((((((s1.trans s2).trans z2).trans s3).trans z3).trans s4).trans z4).trans s5).trans z5).trans z6).trans (same_new f7 _)) upd_same (fun x hx=>?_) (by rw [List.length_append,L5]; decide)
  rcases List.mem_append.mp hx with z | z
  · exact h5 x z
  · simp only [List.mem_cons,List.not_mem_nil,or_false] at z
    rcases z with rfl | rfl
    · exact ⟨_,rfl,by rw [app_len,nl,lc]; decide⟩
    · exact ⟨_,rfl,by rw [app_len,nl,l0]; decide⟩
end
end W07
set_option Elab.async false
set_option linter.all false
set_option maxRecDepth 100000
namespace W07
open PySem L2
section
variable {P:Program} {w:World} {K:PySem.W.Frag} {mg:Str → Option Value} {base:Heap} {A:Adr}
theorem pairTxt_eq (p:Int × Int):pairTxt p = Str.ofString (toString p.1) ++ CO ++ Str.ofString (toString p.2):=by
  unfold pairTxt
  rw [emp_add]
theorem sum_le {m:Nat}:∀ (l:List Nat),(∀ x ∈ l,x ≤ m) → l.sum ≤ l.length * m
  | [],_=>by simp
  | x :: l,h=>by
    have:=sum_le l fun y hy=>h y (List.mem_cons_of_mem _ hy)
    have hx:=h x List.mem_cons_self
    rw [List.sum_cons,List.length_cons,Nat.succ_mul]
    omega
theorem writ_len {rs:List (Int × Int)} (hO:RsOk rs):(writ rs).length ≤ rs.length * 16 + 1:=by
  unfold writ
  split
  · have:(Str.ofString "-").length = 1:=by decide
    rw [this]
    omega
  · unfold PySem.Txt.join
    rw [PySem.size_glued,List.length_map,bl_len]
    have:=sum_le (m:=15) ((rs.map pairTxt).map (·.length)) (fun x hx=>by
      obtain ⟨y,hy,rfl⟩:=List.mem_map.mp hx
      obtain ⟨p,hp,rfl⟩:=List.mem_map.mp hy
      exact pair_len (hO p hp))
    rw [List.length_map,List.length_map] at this
    omega
theorem via {t:TE} {σ:St} {H:Hp} {KK:VK} (R:V → Hp → Prop) (h1:∀ K2:VK,(∀ x H',R x H' → K2 x H') → t σ H K2) (h2:∀ x H',R x H' → KK x H'):t σ H KK:=h1 KK h2
theorem seq_asg {te:TE} {k:Nat} {R:TS} {D:Ends} {σ:St} {H:Hp} (h:te σ H fun x H1=>R D (σ.set k (some x)) H1):tSeq (tAsg te (gName k)) R D σ H:=h
theorem sign_at {i:Int} (h0:0 ≤ i) (h1:i < 14):∃ c,atI (Str.ofString "0123456789: -x").cps.toList i = some c:=by
  have e:(Str.ofString "0123456789: -x").cps.toList = [48,49,50,51,52,53,54,55,56,57,58,32,45,120]:=by decide
  rw [e]
  have:i = 0 ∨ i = 1 ∨ i = 2 ∨ i = 3 ∨ i = 4 ∨ i = 5 ∨ i = 6 ∨ i = 7 ∨ i = 8 ∨ i = 9 ∨ i = 10 ∨ i = 11 ∨ i = 12 ∨ i = 13:=by omega
  rcases this with rfl | rfl | rfl | rfl | rfl | rfl | rfl | rfl | rfl | rfl | rfl | rfl | rfl | rfl <;> exact ⟨_,rfl⟩
theorem two_at {i:Int} {c:Nat} (h0:0 ≤ i) (h1:i < 2):∃ y:Str,atI [V.str (Str.ofString ""),V.str ⟨#[c]⟩] i = some (.str y) ∧ y.length ≤ 1:=by
  have:i = 0 ∨ i = 1:=by omega
  rcases this with rfl | rfl
  · exact ⟨_,rfl,by decide⟩
  · exact ⟨_,rfl,Nat.le_refl _⟩
def xjc (K:PySem.W.Frag):Sp:=fun vs H Q _=>∃ (a:Addr) (ns:List Int),vs = [.ref a] ∧ SqX K H a (ns.map V.int) ∧ ns.length ≤ 63 ∧ ∀ H',Q (.bl true) H'
set_option maxHeartbeats 8000000 in
theorem xi7 (T:Txt K mg A):FnOk P w K mg base CX0 10 A.a_law A.d_law ["_law_script"] (xjc K):=by
  have xdo:=xc5 (P:=P) (w:=w) (base:=base) T
  have xba:=xaT (P:=P) (w:=w) (base:=base) T
  have xge:=xfF (P:=P) (w:=w) (base:=base) T
  have xh1:=xhr (P:=P) (w:=w) (base:=base) T
  have xdn:=xef (P:=P) (w:=w) (base:=base) T
  have xeB:=xfI (P:=P) (w:=w) (base:=base) T
  have xa9:=xbY (P:=P) (w:=w) (base:=base) T
  refine T.F_law.ok xja (fun vs H Q E h=>?_) (fun cdv Ar outer s H vs Q E hr h=>?_)
  · obtain ⟨a,ns,rfl,_⟩:=h
    rfl
  obtain ⟨a,ns,rfl,hS,hlen,q⟩:=h
  refine ⟨_,(@pss_cons _ _ _ _ _ (@ps_set _ _ (1) _ _ _ _ xja.nd rfl (Or.inl rfl) (@pe_call _ _ _ _ _ _ _ _ _ _ _ _ _ _ _ _ xdn (hr.mono (by decide)) rfl T.xd5 T.xdY T.xcr .nil pass0 (@pa_consN _ _ _ _ _ (@pv _ 0 _ _ (by rfl) (Or.inl rfl) (by decide) (by decide)) (@pa_nil _) (by rfl)) (by decide) (by rfl) (by rfl)) (by rfl) (Or.inl rfl)) (@pss_cons _ _ _ _ _ (@ps_set _ _ (2) _ _ _ _ xja.nd rfl (Or.inl rfl) (@pe_ifExp _ _ _ _ _ _ _ _ (@pt_cmpR _ _ _ _ _ _ _ _ (op_neL (eqty_pair (hu_of hr)) hr.units0) (@pv _ 1 _ _ (by rfl) (Or.inl rfl) (by decide) (by decide)) (@pe_lst _ _ _ _ (@pa_nil _)) (nomark _)) (@pe_bm _ _ _ _ _ _ _ _ _ _ _ _ PySem.F.plainAttrs_str PySem.F.slot_str_join PySem.F.type_str_join mt_join (@pe_str _ _ _ _) (@pa_consN _ _ _ _ _ (@pe_comp0 _ _ (["_law_rest", "_law_turn"]) ([none,none]) _ _ _ _ _ _ _ _ xiz rfl (@pi_list _ _ _ _ (@pv _ 1 _ _ (by rfl) (Or.inl rfl) (by decide) (by decide))) (fun z=>(@pg_tup _ _ _ _ _ (2) rfl (@pgs_cons _ _ _ _ _ (@pg_name _ _ (0) _ xiz.nd rfl (Or.inl rfl) (by exact .inr rfl)) (@pgs_cons _ _ _ _ _ (@pg_name _ _ (1) _ xiz.nd rfl (Or.inl rfl) (by exact .inr rfl)) (@pgs_nil _) (by rfl)) (by rfl)) (by rfl) (by rfl))) (sets_two _ _ 0 1) (by decide) (fun z=>(@pe_op _ _ _ _ _ _ _ _ op_add_str (@pe_op _ _ _ _ _ _ _ _ op_add_str (@pe_callTy _ _ _ _ _ _ _ _ _ call_str_int rfl T.b_str B.str (@pa_consN _ _ _ _ _ (@pv _ 0 _ _ (by rfl) (by exact .inl rfl) (by decide) (by decide)) (@pa_nil _) (by rfl)) (by decide) (by decide) (by rfl) (by rfl)) (@pe_str _ _ _ _)) (@pe_callTy _ _ _ _ _ _ _ _ _ call_str_int rfl T.b_str B.str (@pa_consN _ _ _ _ _ (@pv _ 1 _ _ (by rfl) (by exact .inl rfl) (by decide) (by decide)) (@pa_nil _) (by rfl)) (by decide) (by decide) (by rfl) (by rfl)))) (by intro _; rfl)) (@pa_nil _) (by rfl)) (by rfl) (by rfl) (by rfl) (by rfl) (by rfl)) (@pe_str _ _ _ _)) (by rfl) (Or.inl rfl)) (@pss_cons _ _ _ _ _ (@ps_set _ _ (3) _ _ _ _ xja.nd rfl (Or.inl rfl) (@pe_callTy _ _ _ _ _ _ _ _ _ call_list_of rfl T.b_list B.list (@pa_consN _ _ _ _ _ (@pv _ 1 _ _ (by rfl) (Or.inl rfl) (by decide) (by decide)) (@pa_nil _) (by rfl)) (by decide) (by decide) (by rfl) (by rfl)) (by rfl) (Or.inl rfl)) (@pss_cons _ _ _ _ _ (@ps_if _ _ _ _ _ _ _ _ (@PW.pt _ _ _ (@pw_or _ _ _ _ _ _ _ (@pt_cmpR _ _ _ _ _ _ _ _ op_ne (@pe_call _ _ _ _ _ _ _ _ _ _ _ _ _ _ _ _ xh1 (hr.mono (by decide)) rfl T.xiu T.xim T.xgr .nil passNo (@pa_consN _ _ _ _ _ (@pv _ 3 _ _ (by rfl) (Or.inl rfl) (by decide) (by decide)) (@pa_nil _) (by rfl)) (by decide) (by rfl) (by rfl)) (@pv _ 2 _ _ (by rfl) (Or.inl rfl) (by decide) (by decide)) (nomark _)) (@pw_or _ _ _ _ _ _ _ (@pt_cmpR _ _ _ _ _ _ _ _ (op_neL (eqty_pair (hu_of hr)) hr.units0) (@pv _ 3 _ _ (by rfl) (Or.inl rfl) (by decide) (by decide)) (@pv _ 1 _ _ (by rfl) (Or.inl rfl) (by decide) (by decide)) (nomark _)) (@pw_or1 _ _ _ _ (@pt_not _ _ _ _ (@pt_val _ _ _ (@pe_call _ _ _ _ _ _ _ _ _ _ _ _ _ _ _ _ xdo (hr.mono (by decide)) rfl T.xd6 T.xdZ T.xcs .nil pass0 (@pa_consN _ _ _ _ _ (@pv _ 2 _ _ (by rfl) (Or.inl rfl) (by decide) (by decide)) (@pa_nil _) (by rfl)) (by decide) (by rfl) (by rfl)) (by intro _; rfl))))))) (@pss_one _ _ _ (@ps_ret _ _ _ _ (@pe_bl _ _ _ _))) (@pss_nil _)) (@pss_cons _ _ _ _ _ (@ps_set _ _ (4) _ _ _ _ xja.nd rfl (Or.inl rfl) (@pe_op _ _ _ _ _ _ _ _ op_add (@pe_call _ _ _ _ _ _ _ _ _ _ _ _ _ _ _ _ xa9 (hr.mono (by decide)) rfl T.xbN T.xbH T.xax .nil pass0 (@pa_consN _ _ _ _ _ (@pv _ 0 _ _ (by rfl) (Or.inl rfl) (by decide) (by decide)) (@pa_consN _ _ _ _ _ (@pe_int _ _ _ _) (@pa_nil _) (by rfl)) (by rfl)) (by decide) (by rfl) (by rfl)) (@pe_op _ _ _ _ _ _ _ _ op_mul (@pe_int _ _ _ _) (@pe_call _ _ _ _ _ _ _ _ _ _ _ _ _ _ _ _ xa9 (hr.mono (by decide)) rfl T.xbN T.xbH T.xax .nil pass0 (@pa_consN _ _ _ _ _ (@pv _ 0 _ _ (by rfl) (Or.inl rfl) (by decide) (by decide)) (@pa_consN _ _ _ _ _ (@pe_int _ _ _ _) (@pa_nil _) (by rfl)) (by rfl)) (by decide) (by rfl) (by rfl)))) (by rfl) (Or.inl rfl)) (@pss_cons _ _ _ _ _ (@ps_for _ _ _ _ _ _ _ _ PassesOwn.never rfl (@pi_range1 _ _ _ _ _ _ rfl T.b_range (@pa_consN _ _ _ _ _ (@pe_int _ _ _ _) (@pa_nil _) (by rfl)) (by rfl)) (@pg_name _ _ (5) _ xja.nd rfl (Or.inl rfl) (Or.inl rfl)) (@pss_cons _ _ _ _ _ (@ps_set _ _ (6) _ _ _ _ xja.nd rfl (Or.inl rfl) (@pe_call _ _ _ _ _ _ _ _ _ _ _ _ _ _ _ _ xeB (hr.mono (by decide)) rfl T.xfv T.xfo T.xdw .nil pass0 (@pa_consN _ _ _ _ _ (@pe_op _ _ _ _ _ _ _ _ op_add (@pv _ 4 _ _ (by rfl) (Or.inl rfl) (by decide) (by decide)) (@pv _ 5 _ _ (by rfl) (Or.inl rfl) (by decide) (by decide))) (@pa_consN _ _ _ _ _ (@pe_int _ _ _ _) (@pa_consN _ _ _ _ _ (@pe_op _ _ _ _ _ _ _ _ op_add (@pe_callB _ _ _ _ _ _ _ _ _ call_len_str rfl T.b_len B.len (@pa_consN _ _ _ _ _ (@pv _ 2 _ _ (by rfl) (Or.inl rfl) (by decide) (by decide)) (@pa_nil _) (by rfl)) (by decide) (by decide) (by rfl) (by rfl)) (@pe_int _ _ _ _)) (@pa_nil _) (by rfl)) (by rfl)) (by rfl)) (by decide) (by rfl) (by rfl)) (by rfl) (Or.inl rfl)) (@pss_cons _ _ _ _ _ (@ps_set _ _ (7) _ _ _ _ xja.nd rfl (Or.inl rfl) (@pe_ix _ _ _ _ _ _ _ ix_tup (@pe_tup _ _ _ _ _ (@pa_consN _ _ _ _ _ (@pe_str _ _ _ _) (@pa_consN _ _ _ _ _ (@pe_ix _ _ _ _ _ _ _ ix_str (@pe_str _ _ _ _) (@pe_call _ _ _ _ _ _ _ _ _ _ _ _ _ _ _ _ xeB (hr.mono (by decide)) rfl T.xfv T.xfo T.xdw .nil pass0 (@pa_consN _ _ _ _ _ (@pe_op _ _ _ _ _ _ _ _ op_add (@pv _ 4 _ _ (by rfl) (Or.inl rfl) (by decide) (by decide)) (@pv _ 5 _ _ (by rfl) (Or.inl rfl) (by decide) (by decide))) (@pa_consN _ _ _ _ _ (@pe_int _ _ _ _) (@pa_consN _ _ _ _ _ (@pe_int _ _ _ _) (@pa_nil _) (by rfl)) (by rfl)) (by rfl)) (by decide) (by rfl) (by rfl)) (fun _ _=>rfl)) (@pa_nil _) (by rfl)) (by rfl))) (@pe_call _ _ _ _ _ _ _ _ _ _ _ _ _ _ _ _ xeB (hr.mono (by decide)) rfl T.xfv T.xfo T.xdw .nil pass0 (@pa_consN _ _ _ _ _ (@pe_op _ _ _ _ _ _ _ _ op_add (@pv _ 4 _ _ (by rfl) (Or.inl rfl) (by decide) (by decide)) (@pv _ 5 _ _ (by rfl) (Or.inl rfl) (by decide) (by decide))) (@pa_consN _ _ _ _ _ (@pe_int _ _ _ _) (@pa_consN _ _ _ _ _ (@pe_int _ _ _ _) (@pa_nil _) (by rfl)) (by rfl)) (by rfl)) (by decide) (by rfl) (by rfl)) (fun _ _=>rfl)) (by rfl) (Or.inl rfl)) (@pss_one _ _ _ (@ps_if _ _ _ _ _ _ _ _ (@pt_not _ _ _ _ (@pt_val _ _ _ (@pe_call _ _ _ _ _ _ _ _ _ _ _ _ _ _ _ _ xdo (hr.mono (by decide)) rfl T.xd6 T.xdZ T.xcs .nil pass0 (@pa_consN _ _ _ _ _ (@pe_op _ _ _ _ _ _ _ _ op_add_str (@pe_op _ _ _ _ _ _ _ _ op_add_str (@pe_slice _ _ _ _ _ _ _ _ _ _ sl_str (@pv _ 2 _ _ (by rfl) (Or.inl rfl) (by decide) (by decide)) (@po_none _) (@po_some _ _ _ (@pv _ 6 _ _ (by rfl) (Or.inl rfl) (by decide) (by decide)))) (@pv _ 7 _ _ (by rfl) (Or.inl rfl) (by decide) (by decide))) (@pe_slice _ _ _ _ _ _ _ _ _ _ sl_str (@pv _ 2 _ _ (by rfl) (Or.inl rfl) (by decide) (by decide)) (@po_some _ _ _ (@pe_op _ _ _ _ _ _ _ _ op_add (@pv _ 6 _ _ (by rfl) (Or.inl rfl) (by decide) (by decide)) (@pe_call _ _ _ _ _ _ _ _ _ _ _ _ _ _ _ _ xeB (hr.mono (by decide)) rfl T.xfv T.xfo T.xdw .nil pass0 (@pa_consN _ _ _ _ _ (@pe_op _ _ _ _ _ _ _ _ op_add (@pv _ 4 _ _ (by rfl) (Or.inl rfl) (by decide) (by decide)) (@pv _ 5 _ _ (by rfl) (Or.inl rfl) (by decide) (by decide))) (@pa_consN _ _ _ _ _ (@pe_int _ _ _ _) (@pa_consN _ _ _ _ _ (@pe_int _ _ _ _) (@pa_nil _) (by rfl)) (by rfl)) (by rfl)) (by decide) (by rfl) (by rfl)))) (@po_none _))) (@pa_nil _) (by rfl)) (by decide) (by rfl) (by rfl)) (by intro _; rfl))) (@pss_one _ _ _ (@ps_ret _ _ _ _ (@pe_bl _ _ _ _))) (@pss_nil _))))) (by intro _; rfl)) (@pss_cons _ _ _ _ _ (@ps_if _ _ _ _ _ _ _ _ (@pt_not _ _ _ _ (@pt_val _ _ _ (@pe_callB _ _ _ _ _ _ _ _ _ (call_all rfl) rfl T.b_all B.all (@pa_consN _ _ _ _ _ (@pe_comp0 _ _ (["_law_other"]) ([none]) _ _ _ _ _ _ _ _ xiA rfl (@pi_list _ _ _ _ (@pe_call0 _ _ _ _ _ _ _ _ _ _ _ _ _ xge (hr.mono (by decide)) rfl T.xhf T.xg6 T.xeL .nil pass0 (by decide))) (fun z=>(@pg_name _ _ (0) _ xiA.nd rfl (Or.inl rfl) (by exact .inr rfl))) (sets_name 0) (by decide) (fun z=>(@pe_call _ _ _ _ _ _ _ _ _ _ _ _ _ _ _ _ xdo (hr.mono (by decide)) rfl T.xd6 T.xdZ T.xcs .nil pass0 (@pa_consN _ _ _ _ _ (@pv _ 0 _ _ (by rfl) (by exact .inl rfl) (by decide) (by decide)) (@pa_nil _) (by rfl)) (by decide) (by rfl) (by rfl))) (by intro _; rfl)) (@pa_nil _) (by rfl)) (by decide) (by decide) (by rfl) (by rfl)) (by intro _; rfl))) (@pss_one _ _ _ (@ps_ret _ _ _ _ (@pe_bl _ _ _ _))) (@pss_nil _)) (@pss_one _ _ _ (@ps_ret _ _ _ _ (@pe_callB _ _ _ _ _ _ _ _ _ (call_all rfl) rfl T.b_all B.all (@pa_consN _ _ _ _ _ (@pe_comp0 _ _ (["_law_thing"]) ([none]) _ _ _ _ _ _ _ _ xiB rfl (@pi_list _ _ _ _ (@pe_lst _ _ _ _ (@pa_consN _ _ _ _ _ (@pe_non _ _ _) (@pa_consN _ _ _ _ _ (@pe_int _ _ _ _) (@pa_consN _ _ _ _ _ (@pe_lst _ _ _ _ (@pa_consN _ _ _ _ _ (@pe_str _ _ _ _) (@pa_nil _) (by rfl))) (@pa_consN _ _ _ _ _ (@pe_bl _ _ _ _) (@pa_nil _) (by rfl)) (by rfl)) (by rfl)) (by rfl)))) (fun z=>(@pg_name _ _ (0) _ xiB.nd rfl (Or.inl rfl) (by exact .inr rfl))) (sets_name 0) (by decide) (fun z=>(@pe_call _ _ _ _ _ _ _ _ _ _ _ _ _ _ _ _ xba (hr.mono (by decide)) rfl T.xbO T.xbI T.xay .nil pass0 (@pa_consN _ _ _ _ _ (@pv _ 0 _ _ (by rfl) (by exact .inl rfl) (by decide) (by decide)) (@pa_nil _) (by rfl)) (by decide) (by rfl) (by rfl))) (by intro _; rfl)) (@pa_nil _) (by rfl)) (by decide) (by decide) (by rfl) (by rfl))))))))))),?_⟩
  refine ⟨_,rfl,a,ns,rfl,hS,hlen,fun lr rs H1 hO hrl hR s1=>?_⟩
  dsimp only [gName]
  refine seq_asg ?_
  refine via (fun x H2=>x = .str (writ rs) ∧ Same H1 H2) (fun K2 k2=>?_) ?_
  · refine ⟨_,rfl,Nat.zero_le _,fun e0 he0=>?_⟩
    have z0:=same_new he0 (.lst [])
    refine ⟨lr,e0,rs,[],rfl,rfl,PrsAt.rep (hR.same z0),⟨[],SqL.of upd_same,.nil⟩,_,rfl,?_⟩
    by_cases hn:rs = []
    · rw [decT hn]
      exact iteF (k2 _ _ ⟨by unfold writ; rw [if_pos hn],z0⟩)
    rw [decF hn]
    obtain ⟨as,hL,hP⟩:=hR.same z0
    have hal:=hP.length
    generalize upd H1 e0 (.lst []) = H2 at *
    refine iteT ⟨rfl,_,rfl,lr,rfl,⟨_,SqL.of hL⟩,comp_list (K:=K) (a:=lr) (xs:=as.map V.ref) (fun i ys H'=>H' = H2 ∧ ys = ((rs.take i).map pairTxt).map V.str) ⟨rfl,rfl⟩ (by rw [List.length_map]; exact small100 (by omega)) ?_ ?_ ?_⟩
    · rintro i ys H' hi ⟨rfl,rfl⟩
      rw [List.length_map] at hi
      rw [List.length_map,List.length_map,List.length_take]
      exact ⟨SqL.of hL,by omega⟩
    · rintro i v ys H' hx ⟨rfl,rfl⟩
      obtain ⟨b,r,rfl,hb,hr',hq⟩:=prs_get hP hx
      have ho:=hO r (List.mem_of_getElem? hr')
      have h15:=pair_len ho
      rw [pairTxt_eq,app_len] at h15
      have k15:∀ {n:Nat},n ≤ 15 → n ≤ sizeLine:=fun h=>Nat.le_trans h (by decide)
      have l3:(Str.ofString (toString r.1)).length + CO.length ≤ 15:=by rw [app_len] at h15; omega
      refine ⟨b,_,rfl,SqT.of hq,rfl,_,_,rfl,_,_,rfl,rfl,_,rfl,r.1,rfl,log_lt ho.1 (by omega),_,_,rfl,rfl,k15 l3,_,rfl,r.2,rfl,log_lt (by omega) ho.2.2,_,_,rfl,rfl,k15 h15,rfl,?_⟩
      rw [take_snoc hr',List.map_append,List.map_append]
      show _ = _ ++ [V.str (pairTxt r)]
      rw [pairTxt_eq]
    · rintro ys H' ⟨rfl,rfl⟩ m hm
      rw [List.length_map,hal,List.take_length]
      refine ⟨BL,m,rs.map pairTxt,rfl,rfl,SqL.of upd_same,join_ok (m:=15) (fun x hx=>?_) (by rw [List.length_map,bl_len]; omega),k2 _ _ ⟨by unfold writ; rw [if_neg hn],z0.trans (same_new hm _)⟩⟩
      obtain ⟨p,hp,rfl⟩:=List.mem_map.mp hx
      exact pair_len (hO p hp)
  rintro x H2 ⟨rfl,s2⟩
  have hwl:=writ_len hO
  have hw2:(writ rs).length ≤ 1009:=by omega
  have hback:V.str (writ rs) = V.str (writ rs):=rfl
  generalize htx:writ rs = tx at *
  obtain ⟨as,hL,hP⟩:=hR.same s2
  have hal:=hP.length
  refine ⟨_,rfl,lr,_,rfl,.inl (SqL.of hL),fun lh hlh=>?_⟩
  have s3:=same_new hlh (.lst (as.map V.ref))
  have hH:PrsAt (upd H2 lh (.lst (as.map V.ref))) lh rs:=⟨as,upd_same,Paired.mapP hP fun b p q=>s3 _ _ q⟩
  have hRR:=(hR.same s2).same s3
  have hS3:=hS.same ((s1.trans s2).trans s3)
  have s03:=(s1.trans s2).trans s3
  generalize upd H2 lh (.lst (as.map V.ref)) = H3 at *
  refine ⟨_,rfl,lh,rs,rfl,hH,hO,by omega,fun H4 s4=>⟨_,rfl,rfl,_,rfl,?_⟩⟩
  rw [decT (show V.str (writ rs) = V.str tx by rw [htx])]
  refine iteF ⟨_,rfl,_,rfl,lh,lr,rs,rs,rfl,rfl,PrsAt.rep (hH.same s4),PrsAt.rep (hRR.same s4),_,rfl,?_⟩
  rw [decT rfl]
  refine iteF ⟨_,rfl,tx,rfl,by omega,fun H5 s5=>⟨_,rfl,iteF ?_⟩⟩
  have hS5:=hS3.same (s4.trans s5)
  refine ⟨_,rfl,a,ns,3,rfl,hS5.sq,(by decide),fun c3=>⟨_,rfl,a,ns,0,rfl,hS5.sq,(by decide),fun c0=>⟨_,_,rfl,rfl,.inl ⟨by decide,by decide⟩,_,_,rfl,rfl,?_⟩⟩⟩
  dsimp only [gName]
  generalize c3 + 7 * c0 = cell at *
  have hz:tx.length ≤ sizeLine:=Nat.le_trans hw2 (by decide)
  refine ⟨2,rfl,by decide,by decide,?_⟩
  refine for_range (lo:=0) (n:=2) (fun i σ H'=>∃ f5 f6 f7:Option V,σ = [some (.ref a),some (.ref lr),some (.str tx),some (.ref lh),some (.int cell),f5,f6,f7]) ⟨_,_,_,rfl⟩ ?_ ?_
  · rintro i σ H6 hi ⟨f5,f6,f7,rfl⟩
    refine ⟨_,rfl,_,rfl,_,_,rfl,rfl,_,rfl,tx,rfl,hz,_,_,rfl,rfl,_,_,_,rfl,(by omega),fun v1 H7 hv0 hv1 s7=>?_⟩
    refine ⟨_,rfl,_,rfl,_,_,rfl,rfl,_,_,_,rfl,(by decide),fun v2 H8 h20 h21 s8=>?_⟩
    obtain ⟨c,hc⟩:=sign_at h20 h21
    refine ⟨_,_,c,rfl,rfl,(by decide),hc,(by show 2 ≤ sizeLine; decide),fun tp htp=>?_⟩
    refine ⟨_,rfl,_,rfl,_,_,rfl,rfl,_,_,_,rfl,(by decide),fun v3 H9 h30 h31 s9=>?_⟩
    obtain ⟨sg,hsg,hsl⟩:=two_at (c:=c) h30 h31
    refine ⟨tp,_,_,_,rfl,rfl,SqT.of (s9 _ _ upd_same),hsg,?_⟩
    refine ⟨_,rfl,_,rfl,_,rfl,tx,rfl,hz,fun y1 hy1=>⟨_,rfl,_,_,rfl,rfl,Nat.le_trans (show _ ≤ 10000 by omega) (by decide),?_⟩⟩
    refine ⟨_,rfl,_,rfl,_,rfl,_,rfl,_,_,rfl,rfl,_,_,_,rfl,(by decide),fun v4 H10 h40 h41 s10=>⟨_,_,rfl,rfl,_,rfl,tx,rfl,hz,fun y2 hy2=>?_⟩⟩
    have hcat:(y1 ++ sg).length + y2.length ≤ 10000:=by rw [app_len]; omega
    refine ⟨_,_,rfl,rfl,Nat.le_trans hcat (by decide),_,rfl,by rw [app_len]; exact hcat,fun H11 s11=>⟨_,rfl,iteF ⟨_,_,_,rfl⟩⟩⟩
  rintro σ H6 ⟨f5,f6,f7,rfl⟩
  refine ⟨rfl,fun lf xs H7 s7 hF hx hxl=>⟨lf,rfl,⟨_,SqL.of hF⟩,comp_list (K:=K) (a:=lf) (xs:=xs) (fun i ys H'=>Same H7 H' ∧ ys = (List.replicate i true).map V.bl) ⟨Same.refl _,rfl⟩ (small100 (by omega)) ?_ ?_ ?_⟩⟩
  · rintro i ys H' hi ⟨s',rfl⟩
    exact ⟨SqL.of (s' _ _ hF),by rw [List.length_map,List.length_replicate]⟩
  · rintro i v ys H' hv ⟨s',rfl⟩
    obtain ⟨x,rfl,hxx⟩:=hx v (List.mem_of_getElem? hv)
    refine ⟨_,rfl,x,rfl,hxx,fun H8 s8=>⟨s'.trans s8,?_⟩⟩
    rw [List.replicate_succ',List.map_append]
    rfl
  · rintro ys H8 ⟨s8,rfl⟩ m hm
    refine ⟨m,List.replicate xs.length true,rfl,SqL.of upd_same,_,rfl,?_⟩
    rw [show (List.replicate xs.length true).all id = true by simp]
    refine iteF ⟨(by show 1 ≤ sizeLine; decide),fun l1 h1=>⟨(by show 4 ≤ sizeLine; decide),fun l4 h4=>?_⟩⟩
    have z4:=same_new h4 (.lst [.non,.int 5,.ref l1,.bl true])
    have hl1:=z4 _ _ (upd_same (H:=upd H8 m (.lst ((List.replicate xs.length true).map V.bl))) (a:=l1) (o:=.lst [.str (Str.ofString "0:1")]))
    refine ⟨l4,rfl,⟨_,SqL.of upd_same⟩,comp_list (K:=K) (a:=l4) (xs:=[.non,.int 5,.ref l1,.bl true]) (fun i ys H'=>Same _ H' ∧ ys = (List.replicate i true).map V.bl) ⟨Same.refl _,rfl⟩ (by show 4 ≤ sizeLine; decide) ?_ ?_ ?_⟩
    · rintro i ys H' hi ⟨s',rfl⟩
      exact ⟨SqL.of (s' _ _ upd_same),by rw [List.length_map,List.length_replicate]⟩
    · rintro i v ys H' hv ⟨s',rfl⟩
      have no:NoTxt K H' v:=by
        have hm:=List.mem_of_getElem? hv
        simp only [List.mem_cons,List.not_mem_nil,or_false] at hm
        rcases hm with rfl | rfl | rfl | rfl
        · exact ⟨_,TyOf.non,T.is_NoneType_str⟩
        · exact ⟨_,TyOf.int 5,T.is_int_str⟩
        · exact ⟨_,TyOf.lst (s' _ _ hl1),T.is_list_str⟩
        · exact ⟨_,TyOf.bl true,T.is_bool_str⟩
      refine ⟨_,rfl,v,rfl,.inr no,fun H9 s9=>⟨s'.trans s9,?_⟩⟩
      rw [List.replicate_succ',List.map_append]
      rfl
    · rintro ys H9 ⟨s9,rfl⟩ m2 hm2
      exact ⟨m2,List.replicate 4 true,rfl,SqL.of upd_same,q _⟩
end
end W07
set_option Elab.async false
set_option linter.all false
namespace H07
open PySem PySem.W PySem.Calls PyProof.Rows
noncomputable section
set_option maxRecDepth 100000
theorem laid:(PySem.Challenge.pw_wheelrow_k07_written.main.body.isEmpty) = false:=by
  cases h:PySem.Challenge.pw_wheelrow_k07_written.main.body.isEmpty with
  | false=>rfl
  | true =>
    have t:(!PySem.Challenge.pw_wheelrow_k07_written.main.body.isEmpty) = true:=by k_qdec
    rw [h] at t
    cases t
abbrev p':Program:=PySem.W.Fast.tw11422374576900707986
abbrev pq:Program:=PySem.Challenge.pw_wheelrow_k07_written
theorem pq_eq:pq = p':=by
  have _:=laid
  exact PySem.W.Fast.te11422374576900707986
abbrev S (s:String):Str:=Str.ofString s
def tpOf (p:Program) (i:Nat):Stmt:=p.main.body.getD i (.Pass ⟨0,0,0,0⟩)
abbrev tp (i:Nat):Stmt:=tpOf p' i
def fA (s:Stmt):Arguments:=match s with
  | .FunctionDef _ a _ _ _ _ _ _ _ _=>a
  | _=>{ posonlyargs:=[],args:=[],vararg:=none,kwonlyargs:=[],kw_defaults:=[],kwarg:=none,defaults:=[] }
def fB (s:Stmt):List Stmt:=match s with
  | .FunctionDef _ _ b _ _ _ _ _ _ _=>b
  | _=>[]
def fS (s:Stmt):Scope:=match s with
  | .FunctionDef _ _ _ _ _ _ sc _ _ _=>sc
  | _=>{ kind:=.function,names:=[],isGenerator:=false,isCoroutine:=false }
abbrev vi (n t:Nat):Value:=.int (.ofNat n) t
abbrev vs (s:Str) (t:Nat):Value:=.str s t
abbrev vr (n:Nat):Value:=.ref n
abbrev de (P:Params) (s:Str) (t:Nat) (v:Value):DictEntry:=⟨PyData.keyHash P s,.str s t,v⟩
abbrev c0:Str:=⟨⟨[95,95,110,97,109,101,95,95]⟩⟩
abbrev c1:Str:=⟨⟨[98,117,105,108,116,105,110,115]⟩⟩
abbrev c2:Str:=⟨⟨[95,95,100,111,99,95,95]⟩⟩
abbrev c3:Str:=⟨⟨[95,95,112,97,99,107,97,103,101,95,95]⟩⟩
abbrev c4:Str:=⟨⟨[95,95,108,111,97,100,101,114,95,95]⟩⟩
abbrev c5:Str:=⟨⟨[95,95,115,112,101,99,95,95]⟩⟩
abbrev c160:Str:=⟨⟨[95,95,109,97,105,110,95,95]⟩⟩
abbrev c161:Str:=⟨⟨[95,95,97,110,110,111,116,97,116,105,111,110,115,95,95]⟩⟩
abbrev c162:Str:=⟨⟨[95,95,98,117,105,108,116,105,110,115,95,95]⟩⟩
abbrev c163:Str:=⟨⟨[95,95,102,105,108,101,95,95]⟩⟩
abbrev c164:Str:=⟨⟨[47,99,108,97,105,109,47,99,117,116,46,112,121]⟩⟩
abbrev c165:Str:=⟨⟨[95,95,99,97,99,104,101,100,95,95]⟩⟩
abbrev c166:Str:=⟨⟨[60,109,111,100,117,108,101,62]⟩⟩
abbrev c167:Str:=⟨⟨[108,97,119,95,119,104,101,101,108,114,111,119,95,107,48,55,95,119,114,105,116,116,101,110]⟩⟩
abbrev c168:Str:=⟨⟨[82,101,115,116,69,114,114,111,114]⟩⟩
abbrev c169:Str:=⟨⟨[66,97,100,82,101,115,116,115]⟩⟩
abbrev c170:Str:=⟨⟨[66,97,100,78,117,109,98,101,114,115]⟩⟩
abbrev c171:Str:=⟨⟨[66,97,100,82,111,117,110,100]⟩⟩
abbrev c172:Str:=⟨⟨[66,97,100,82,101,115,116]⟩⟩
abbrev c173:Str:=⟨⟨[66,97,100,67,111,117,110,116]⟩⟩
abbrev c174:Str:=⟨⟨[66,97,100,84,101,120,116]⟩⟩
abbrev c175:Str:=⟨⟨[71,82,69,65,84,69,83,84,95,82,79,85,78,68]⟩⟩
abbrev c176:Str:=⟨⟨[105,115,95,119,104,111,108,101]⟩⟩
abbrev c177:Str:=⟨⟨[105,115,95,114,111,117,110,100]⟩⟩
abbrev c178:Str:=⟨⟨[105,115,95,114,101,115,116]⟩⟩
abbrev c179:Str:=⟨⟨[105,115,95,114,101,115,116,95,112,97,105,114]⟩⟩
abbrev c180:Str:=⟨⟨[97,114,101,95,114,101,115,116,115]⟩⟩
abbrev c181:Str:=⟨⟨[78,79,95,82,69,83,84,83]⟩⟩
abbrev c182:Str:=⟨⟨[45]⟩⟩
abbrev c183:Str:=⟨⟨[70,73,71,85,82,69,83]⟩⟩
abbrev c184:Str:=⟨⟨[48,49,50,51,52,53,54,55,56,57]⟩⟩
abbrev c185:Str:=⟨⟨[77,79,83,84,95,70,73,71,85,82,69,83]⟩⟩
abbrev c186:Str:=⟨⟨[119,114,105,116,116,101,110]⟩⟩
abbrev c187:Str:=⟨⟨[114,101,97,100]⟩⟩
abbrev c188:Str:=⟨⟨[114,101,97,100,95,112,97,105,114]⟩⟩
abbrev c189:Str:=⟨⟨[114,101,97,100,95,110,117,109,98,101,114]⟩⟩
abbrev c190:Str:=⟨⟨[97,114,101,95,102,105,103,117,114,101,115]⟩⟩
abbrev c191:Str:=⟨⟨[95,108,97,119,95,99,101,108,108,95,97,116]⟩⟩
abbrev c192:Str:=⟨⟨[95,108,97,119,95,100,114,97,119]⟩⟩
abbrev c193:Str:=⟨⟨[95,108,97,119,95,116,117,114,110,115]⟩⟩
abbrev c194:Str:=⟨⟨[95,108,97,119,95,114,101,115,116,115]⟩⟩
abbrev c195:Str:=⟨⟨[95,108,97,119,95,112,97,114,116]⟩⟩
abbrev c196:Str:=⟨⟨[95,108,97,119,95,119,104,111,108,101]⟩⟩
abbrev c197:Str:=⟨⟨[95,108,97,119,95,110,117,109,98,101,114,115]⟩⟩
abbrev c198:Str:=⟨⟨[95,108,97,119,95,110,117,109,98,101,114]⟩⟩
abbrev c199:Str:=⟨⟨[95,108,97,119,95,105,110]⟩⟩
abbrev c200:Str:=⟨⟨[95,108,97,119,95,114,101,102,117,115,101,100]⟩⟩
abbrev c201:Str:=⟨⟨[95,108,97,119,95,114,105,103,104,116]⟩⟩
abbrev c202:Str:=⟨⟨[95,108,97,119,95,102,101,119]⟩⟩
abbrev c203:Str:=⟨⟨[108,97,119]⟩⟩
abbrev c204:Str:=⟨⟨[95,95,109,111,100,117,108,101,95,95]⟩⟩
abbrev c205:Str:=⟨⟨[119,104,101,101,108,114,111,119,46,101,114,114,111,114,115]⟩⟩
abbrev c206:Str:=⟨⟨[95,95,113,117,97,108,110,97,109,101,95,95]⟩⟩
abbrev c207:Str:=⟨⟨[95,95,102,105,114,115,116,108,105,110,101,110,111,95,95]⟩⟩
abbrev c208:Str:=⟨⟨[95,95,115,116,97,116,105,99,95,97,116,116,114,105,98,117,116,101,115,95,95]⟩⟩
abbrev c209:Str:=⟨⟨[95,95,119,101,97,107,114,101,102,95,95]⟩⟩
abbrev c210:Str:=⟨⟨[118,97,108,117,101]⟩⟩
abbrev c211:Str:=⟨⟨[119,104,101,101,108,114,111,119,46,110,117,109,98,101,114,115]⟩⟩
abbrev c212:Str:=⟨⟨[116,117,114,110]⟩⟩
abbrev c213:Str:=⟨⟨[119,104,101,101,108,114,111,119,46,116,101,120,116,115]⟩⟩
abbrev c214:Str:=⟨⟨[119,111,114,100]⟩⟩
abbrev c215:Str:=⟨⟨[104,97,108,118,101,115]⟩⟩
abbrev c216:Str:=⟨⟨[112,97,105,114]⟩⟩
abbrev c217:Str:=⟨⟨[95,108,97,119,95,115,99,114,105,112,116]⟩⟩
abbrev c218:Str:=⟨⟨[95,108,97,119,95,107]⟩⟩
abbrev c219:Str:=⟨⟨[95,108,97,119,95,99,101,108,108]⟩⟩
abbrev c220:Str:=⟨⟨[95,108,97,119,95,109,97,110,121]⟩⟩
abbrev c221:Str:=⟨⟨[95,108,97,119,95,112,114,105,109,101,115]⟩⟩
abbrev c222:Str:=⟨⟨[95,108,97,119,95,107,105,110,100]⟩⟩
abbrev c223:Str:=⟨⟨[95,108,97,119,95,102,111,117,110,100]⟩⟩
abbrev c224:Str:=⟨⟨[95,108,97,119,95,116,117,114,110]⟩⟩
abbrev c225:Str:=⟨⟨[95,108,97,119,95,111,110,101]⟩⟩
abbrev c226:Str:=⟨⟨[95,108,97,119,95,111,116,104,101,114]⟩⟩
abbrev c227:Str:=⟨⟨[95,108,97,119,95,110,117,109,98,101,114,95,104,101,114,101]⟩⟩
abbrev c228:Str:=⟨⟨[95,108,97,119,95,116,101,120,116]⟩⟩
abbrev c229:Str:=⟨⟨[95,108,97,119,95,119,111,114,100]⟩⟩
abbrev c230:Str:=⟨⟨[95,108,97,119,95,114,101,115,116]⟩⟩
abbrev c231:Str:=⟨⟨[95,108,97,119,95,115,105,103,110]⟩⟩
abbrev c232:Str:=⟨⟨[101,114,114,111,114]⟩⟩
abbrev c233:Str:=⟨⟨[95,108,97,119,95,111,116,104,101,114,115]⟩⟩
abbrev c234:Str:=⟨⟨[95,108,97,119,95,100,117,101]⟩⟩
abbrev c235:Str:=⟨⟨[95,108,97,119,95,115,111,109,101]⟩⟩
abbrev l0:String:=PySem.W.SL.s14018661285674007319x4
abbrev l1:String:=PySem.W.S.litE [PySem.W.S.mk8 98 rfl,PySem.W.S.mk8 117 rfl,PySem.W.S.mk8 105 rfl,PySem.W.S.mk8 108 rfl,PySem.W.S.mk8 116 rfl,PySem.W.S.mk8 105 rfl,PySem.W.S.mk8 110 rfl,PySem.W.S.mk8 115 rfl,PySem.W.S.mk8 46 rfl,PySem.W.S.mk8 95 rfl,PySem.W.S.mk8 95 rfl,PySem.W.S.mk8 100 rfl,PySem.W.S.mk8 111 rfl,PySem.W.S.mk8 99 rfl,PySem.W.S.mk8 95 rfl,PySem.W.S.mk8 95 rfl,PySem.W.S.mk8 58 rfl,PySem.W.S.mk8 115 rfl,PySem.W.S.mk8 116 rfl,PySem.W.S.mk8 114 rfl,PySem.W.S.mk8 35 rfl,PySem.W.S.mk8 111 rfl,PySem.W.S.mk8 112 rfl,PySem.W.S.mk8 97 rfl,PySem.W.S.mk8 113 rfl,PySem.W.S.mk8 117 rfl,PySem.W.S.mk8 101 rfl] [98,117,105,108,116,105,110,115,46,95,95,100,111,99,95,95,58,115,116,114,35,111,112,97,113,117,101] rfl rfl
abbrev l2:String:=PySem.W.S.litE [PySem.W.S.mk8 98 rfl,PySem.W.S.mk8 117 rfl,PySem.W.S.mk8 105 rfl,PySem.W.S.mk8 108 rfl,PySem.W.S.mk8 116 rfl,PySem.W.S.mk8 105 rfl,PySem.W.S.mk8 110 rfl,PySem.W.S.mk8 115 rfl,PySem.W.S.mk8 46 rfl,PySem.W.S.mk8 95 rfl,PySem.W.S.mk8 95 rfl,PySem.W.S.mk8 112 rfl,PySem.W.S.mk8 97 rfl,PySem.W.S.mk8 99 rfl,PySem.W.S.mk8 107 rfl,PySem.W.S.mk8 97 rfl,PySem.W.S.mk8 103 rfl,PySem.W.S.mk8 101 rfl,PySem.W.S.mk8 95 rfl,PySem.W.S.mk8 95 rfl,PySem.W.S.mk8 58 rfl,PySem.W.S.mk8 115 rfl,PySem.W.S.mk8 116 rfl,PySem.W.S.mk8 114 rfl,PySem.W.S.mk8 35 rfl,PySem.W.S.mk8 111 rfl,PySem.W.S.mk8 112 rfl,PySem.W.S.mk8 97 rfl,PySem.W.S.mk8 113 rfl,PySem.W.S.mk8 117 rfl,PySem.W.S.mk8 101 rfl] [98,117,105,108,116,105,110,115,46,95,95,112,97,99,107,97,103,101,95,95,58,115,116,114,35,111,112,97,113,117,101] rfl rfl
abbrev l3:String:=PySem.W.S.litE [PySem.W.S.mk8 98 rfl,PySem.W.S.mk8 117 rfl,PySem.W.S.mk8 105 rfl,PySem.W.S.mk8 108 rfl,PySem.W.S.mk8 116 rfl,PySem.W.S.mk8 105 rfl,PySem.W.S.mk8 110 rfl,PySem.W.S.mk8 115 rfl,PySem.W.S.mk8 46 rfl,PySem.W.S.mk8 95 rfl,PySem.W.S.mk8 95 rfl,PySem.W.S.mk8 108 rfl,PySem.W.S.mk8 111 rfl,PySem.W.S.mk8 97 rfl,PySem.W.S.mk8 100 rfl,PySem.W.S.mk8 101 rfl,PySem.W.S.mk8 114 rfl,PySem.W.S.mk8 95 rfl,PySem.W.S.mk8 95 rfl,PySem.W.S.mk8 58 rfl,PySem.W.S.mk8 115 rfl,PySem.W.S.mk8 104 rfl,PySem.W.S.mk8 97 rfl,PySem.W.S.mk8 114 rfl,PySem.W.S.mk8 101 rfl,PySem.W.S.mk8 100 rfl,PySem.W.S.mk8 35 rfl,PySem.W.S.mk8 111 rfl,PySem.W.S.mk8 112 rfl,PySem.W.S.mk8 97 rfl,PySem.W.S.mk8 113 rfl,PySem.W.S.mk8 117 rfl,PySem.W.S.mk8 101 rfl] [98,117,105,108,116,105,110,115,46,95,95,108,111,97,100,101,114,95,95,58,115,104,97,114,101,100,35,111,112,97,113,117,101] rfl rfl
abbrev l4:String:=PySem.W.SL.s11665532747177232413x24
abbrev l5:String:=PySem.W.SL.s15183661809925369436x15
abbrev l6:String:=PySem.W.SL.s13915890719876406383x10
abbrev l7:String:=PySem.W.SL.s13459172003223722735x3
abbrev l9:String:=PySem.W.SL.s4233737765568776869x3
abbrev l63:String:=PySem.W.SL.s2742458400755230247x6
abbrev l70:String:=PySem.W.SL.s4290257624100764138x5
abbrev l71:String:=PySem.W.SL.s2766695959194262286x5
abbrev l72:String:=PySem.W.SL.s17162191345867700912x4
abbrev l74:String:=PySem.W.SL.s4278001404047624695x13
abbrev l76:String:=PySem.W.SL.s5946037652744460706x9
abbrev l97:String:=PySem.W.SL.s6070975301684473832x10
abbrev l150:String:=PySem.W.SL.s7097527257260152453x26
abbrev l152:String:=PySem.W.SL.s5856160107412720595x4
abbrev l153:String:=PySem.W.SL.s658472552662922059x5
abbrev l154:String:=PySem.W.SL.s11030030927630378310x26
abbrev l155:String:=PySem.W.SL.s10062305145149207511x16
abbrev l156:String:=PySem.W.SL.s4209523147560561109x18
abbrev l157:String:=PySem.W.SL.s14755015743595814543x17
abbrev l158:String:=PySem.W.SL.s10220274742760427390x26
abbrev l159:String:=PySem.W.SL.s4860613602091757760x24
abbrev l160:String:=PySem.W.SL.s7174869446012820540x8
abbrev o0 (P:Params):Obj:=⟨(.type l71),none,(.seq ⟨[]⟩ 0),⟨[]⟩⟩
abbrev o1 (P:Params):Obj:=⟨.none,none,(.fields ⟨[]⟩),⟨[]⟩⟩
abbrev o2 (P:Params):Obj:=⟨(.type l152),none,(.fields ⟨[(vs c166 182),(vs c166 183),(vs c164 184),(vi 1 0),(vi 0 0),(vi 0 0),(vi 0 0),(vi 0 0),(vr 11),(.bool false),(vi 181 0),(vr 12),.none,.none,.none,.none,(vi 185 0),(vi 1 0),(vs c164 186)]⟩),⟨[]⟩⟩
abbrev o3 (P:Params):Obj:=⟨(.type l153),none,.plain,⟨[some (vr 13),some (vr 3),some (vr 3),none,some (vs c160 164),none,some (vr 0)]⟩⟩
abbrev o4 (P:Params):Obj:=⟨(.type l0),none,(.dict ⟨((de P c0 165 (vs c167 384)) :: (de P c2 166 .none) :: (de P c3 167 .none) :: (de P c4 168 (.builtin l150)) :: (de P c5 169 .none) :: (de P c161 170 (vr 6)) :: (de P c162 171 (vr 4)) :: (de P c163 173 (vs c164 172)) :: (de P c165 174 .none) :: (de P c168 206 (vr 24)) :: (de P c169 222 (vr 37)) :: (de P c170 238 (vr 49)) :: (de P c171 254 (vr 61)) :: (de P c172 270 (vr 73)) :: (de P c173 286 (vr 85)) :: (de P c174 302 (vr 97)) :: (de P c175 306 (vi 1000000 305)) :: (de P c176 313 (vr 106)) :: (de P c177 320 (vr 113)) :: (de P c178 328 (vr 120)) :: (de P c179 335 (vr 127)) :: (de P c180 341 (vr 132)) :: (de P c181 345 (vs c182 344)) :: (de P c183 347 (vs c184 346)) :: (de P c185 349 (vi 7 348)) :: (de P c186 355 (vr 137)) :: (de P c187 361 (vr 142)) :: (de P c188 370 (vr 149)) :: (de P c189 377 (vr 156)) :: (de P c190 383 (vr 161)) :: (de P c191 393 (vr 168)) :: (de P c192 403 (vr 175)) :: (de P c193 414 (vr 182)) :: (de P c194 420 (vr 187)) :: (de P c195 428 (vr 194)) :: (de P c196 435 (vr 201)) :: (de P c197 441 (vr 206)) :: (de P c198 448 (vr 213)) :: (de P c199 460 (vr 220)) :: (de P c200 469 (vr 227)) :: (de P c201 478 (vr 234)) :: (de P c202 485 (vr 241)) :: (de P c203 491 (vr 246)) :: [])⟩ 43),⟨[]⟩⟩
abbrev o5 (P:Params):Obj:=⟨.none,none,(.fields ⟨(((vi 2 0)) :: ((vi 0 0)) :: ((vr 20)) :: ((vi 4 0)) :: ((vi 0 0)) :: ((vr 33)) :: ((vi 6 0)) :: ((vi 0 0)) :: ((vr 45)) :: ((vi 8 0)) :: ((vi 0 0)) :: ((vr 57)) :: ((vi 10 0)) :: ((vi 0 0)) :: ((vr 69)) :: ((vi 12 0)) :: ((vi 0 0)) :: ((vr 81)) :: ((vi 14 0)) :: ((vi 0 0)) :: ((vr 93)) :: ((vi 18 0)) :: ((vi 0 0)) :: ((vr 105)) :: ((vi 20 0)) :: ((vi 0 0)) :: ((vr 112)) :: ((vi 22 0)) :: ((vi 0 0)) :: ((vr 119)) :: ((vi 24 0)) :: ((vi 0 0)) :: ((vr 126)) :: ((vi 26 0)) :: ((vi 0 0)) :: ((vr 131)) :: ((vi 32 0)) :: ((vi 0 0)) :: ((vr 136)) :: ((vi 38 0)) :: ((vi 0 0)) :: ((vr 141)) :: ((vi 44 0)) :: ((vi 0 0)) :: ((vr 148)) :: ((vi 50 0)) :: ((vi 0 0)) :: ((vr 155)) :: ((vi 54 0)) :: ((vi 0 0)) :: ((vr 160)) :: ((vi 59 0)) :: ((vi 0 0)) :: ((vr 167)) :: ((vi 63 0)) :: ((vi 0 0)) :: ((vr 174)) :: ((vi 66 0)) :: ((vi 0 0)) :: ((vr 181)) :: ((vi 75 0)) :: ((vi 0 0)) :: ((vr 186)) :: ((vi 82 0)) :: ((vi 0 0)) :: ((vr 193)) :: ((vi 87 0)) :: ((vi 0 0)) :: ((vr 200)) :: ((vi 89 0)) :: ((vi 0 0)) :: ((vr 205)) :: ((vi 91 0)) :: ((vi 0 0)) :: ((vr 212)) :: ((vi 95 0)) :: ((vi 0 0)) :: ((vr 219)) :: ((vi 106 0)) :: ((vi 0 0)) :: ((vr 226)) :: ((vi 114 0)) :: ((vi 0 0)) :: ((vr 233)) :: ((vi 123 0)) :: ((vi 0 0)) :: ((vr 240)) :: ((vi 130 0)) :: ((vi 0 0)) :: ((vr 245)) :: [])⟩),⟨[]⟩⟩
abbrev o6 (P:Params):Obj:=⟨(.type l71),none,(.seq ⟨[(.type l97)]⟩ 0),⟨[]⟩⟩
abbrev o7 (P:Params):Obj:=⟨(.type l154),none,(.fields ⟨[(.builtin l155),(.type l72)]⟩),⟨[]⟩⟩
abbrev o8 (P:Params):Obj:=⟨(.type l0),none,(.dict ⟨[de P c204 196 (vs c205 187),de P c206 198 (vs c168 197),de P c207 200 (vi 2 199),de P c208 201 (vr 22)]⟩ 4),⟨[]⟩⟩
abbrev o9 (P:Params):Obj:=⟨(.type l152),none,(.fields ⟨[(vs c168 191),(vs c168 192),(vs c164 193),(vi 2 0),(vi 0 0),(vi 0 0),(vi 0 0),(vi 0 0),(vr 18),(.bool false),(vi 181 0),(vr 19),.none,.none,.none,.none,(vi 194 0),(vi 2 0),(vs c164 195)]⟩),⟨[]⟩⟩
abbrev o10 (P:Params):Obj:=⟨(.type l153),none,.plain,⟨[some (vr 20),some (vr 3),some (vr 17),none,some (vs c205 187),none,some (vr 0)]⟩⟩
abbrev o11 (P:Params):Obj:=⟨(.type l0),none,(.dict ⟨[de P c204 196 (vs c205 187),de P c207 200 (vi 2 199),de P c208 201 (vr 22),de P c209 203 (vr 25),de P c2 204 .none]⟩ 3),⟨[]⟩⟩
abbrev o12 (P:Params):Obj:=⟨(.type l72),none,(.cls ⟨c168,[(.type l97)],[(vr 24),(.type l97),(.type l76),(.type l74),(.type l63)],23,c168,true,[],[(vr 37),(vr 49),(vr 61),(vr 73),(vr 85),(vr 97)],false,none,false⟩),⟨[some (vr 15),none,some (vs c168 189),some (vs c168 197),some (.builtin l156),some (.bool true)]⟩⟩
abbrev o13 (P:Params):Obj:=⟨(.type l157),none,(.fields ⟨[(vs c209 202),(vr 24),(.builtin l158),.none]⟩),⟨[]⟩⟩
abbrev o14 (P:Params):Obj:=⟨(.type l70),none,(.fields ⟨[(vr 24),(vr 24),(vr 24)]⟩),⟨[]⟩⟩
abbrev o15 (P:Params):Obj:=⟨(.type l154),none,(.fields ⟨[(.builtin l159),(vr 24)]⟩),⟨[]⟩⟩
abbrev o16 (P:Params):Obj:=⟨(.type l71),none,(.seq ⟨[(vr 24)]⟩ 0),⟨[]⟩⟩
abbrev o17 (P:Params):Obj:=⟨(.type l0),none,(.dict ⟨[de P c204 214 (vs c205 187),de P c206 216 (vs c169 215),de P c207 218 (vi 4 217),de P c208 219 (vr 35)]⟩ 4),⟨[]⟩⟩
abbrev o18 (P:Params):Obj:=⟨(.type l152),none,(.fields ⟨[(vs c169 209),(vs c169 210),(vs c164 211),(vi 4 0),(vi 0 0),(vi 0 0),(vi 0 0),(vi 0 0),(vr 31),(.bool false),(vi 181 0),(vr 32),.none,.none,.none,.none,(vi 212 0),(vi 4 0),(vs c164 213)]⟩),⟨[]⟩⟩
abbrev o19 (P:Params):Obj:=⟨(.type l153),none,.plain,⟨[some (vr 33),some (vr 3),some (vr 30),none,some (vs c205 187),none,some (vr 0)]⟩⟩
abbrev o20 (P:Params):Obj:=⟨(.type l0),none,(.dict ⟨[de P c204 214 (vs c205 187),de P c207 218 (vi 4 217),de P c208 219 (vr 35),de P c2 220 .none]⟩ 2),⟨[]⟩⟩
abbrev o21 (P:Params):Obj:=⟨(.type l72),none,(.cls ⟨c169,[(vr 24)],[(vr 37),(vr 24),(.type l97),(.type l76),(.type l74),(.type l63)],36,c169,true,[],[],false,none,false⟩),⟨[some (vr 28),none,some (vs c169 207),some (vs c169 215),some (.builtin l156),some (.bool true)]⟩⟩
abbrev o22 (P:Params):Obj:=⟨(.type l70),none,(.fields ⟨[(vr 37),(vr 37),(vr 37)]⟩),⟨[]⟩⟩
abbrev o23 (P:Params):Obj:=⟨(.type l154),none,(.fields ⟨[(.builtin l159),(vr 37)]⟩),⟨[]⟩⟩
abbrev o24 (P:Params):Obj:=⟨(.type l0),none,(.dict ⟨[de P c204 230 (vs c205 187),de P c206 232 (vs c170 231),de P c207 234 (vi 6 233),de P c208 235 (vr 47)]⟩ 4),⟨[]⟩⟩
abbrev o25 (P:Params):Obj:=⟨(.type l152),none,(.fields ⟨[(vs c170 225),(vs c170 226),(vs c164 227),(vi 6 0),(vi 0 0),(vi 0 0),(vi 0 0),(vi 0 0),(vr 43),(.bool false),(vi 181 0),(vr 44),.none,.none,.none,.none,(vi 228 0),(vi 6 0),(vs c164 229)]⟩),⟨[]⟩⟩
abbrev o26 (P:Params):Obj:=⟨(.type l153),none,.plain,⟨[some (vr 45),some (vr 3),some (vr 42),none,some (vs c205 187),none,some (vr 0)]⟩⟩
abbrev o27 (P:Params):Obj:=⟨(.type l0),none,(.dict ⟨[de P c204 230 (vs c205 187),de P c207 234 (vi 6 233),de P c208 235 (vr 47),de P c2 236 .none]⟩ 2),⟨[]⟩⟩
abbrev o28 (P:Params):Obj:=⟨(.type l72),none,(.cls ⟨c170,[(vr 24)],[(vr 49),(vr 24),(.type l97),(.type l76),(.type l74),(.type l63)],48,c170,true,[],[],false,none,false⟩),⟨[some (vr 40),none,some (vs c170 223),some (vs c170 231),some (.builtin l156),some (.bool true)]⟩⟩
abbrev o29 (P:Params):Obj:=⟨(.type l70),none,(.fields ⟨[(vr 49),(vr 49),(vr 49)]⟩),⟨[]⟩⟩
abbrev o30 (P:Params):Obj:=⟨(.type l154),none,(.fields ⟨[(.builtin l159),(vr 49)]⟩),⟨[]⟩⟩
abbrev o31 (P:Params):Obj:=⟨(.type l0),none,(.dict ⟨[de P c204 246 (vs c205 187),de P c206 248 (vs c171 247),de P c207 250 (vi 8 249),de P c208 251 (vr 59)]⟩ 4),⟨[]⟩⟩
abbrev o32 (P:Params):Obj:=⟨(.type l152),none,(.fields ⟨[(vs c171 241),(vs c171 242),(vs c164 243),(vi 8 0),(vi 0 0),(vi 0 0),(vi 0 0),(vi 0 0),(vr 55),(.bool false),(vi 181 0),(vr 56),.none,.none,.none,.none,(vi 244 0),(vi 8 0),(vs c164 245)]⟩),⟨[]⟩⟩
abbrev o33 (P:Params):Obj:=⟨(.type l153),none,.plain,⟨[some (vr 57),some (vr 3),some (vr 54),none,some (vs c205 187),none,some (vr 0)]⟩⟩
abbrev o34 (P:Params):Obj:=⟨(.type l0),none,(.dict ⟨[de P c204 246 (vs c205 187),de P c207 250 (vi 8 249),de P c208 251 (vr 59),de P c2 252 .none]⟩ 2),⟨[]⟩⟩
abbrev o35 (P:Params):Obj:=⟨(.type l72),none,(.cls ⟨c171,[(vr 24)],[(vr 61),(vr 24),(.type l97),(.type l76),(.type l74),(.type l63)],60,c171,true,[],[],false,none,false⟩),⟨[some (vr 52),none,some (vs c171 239),some (vs c171 247),some (.builtin l156),some (.bool true)]⟩⟩
abbrev o36 (P:Params):Obj:=⟨(.type l70),none,(.fields ⟨[(vr 61),(vr 61),(vr 61)]⟩),⟨[]⟩⟩
abbrev o37 (P:Params):Obj:=⟨(.type l154),none,(.fields ⟨[(.builtin l159),(vr 61)]⟩),⟨[]⟩⟩
abbrev o38 (P:Params):Obj:=⟨(.type l0),none,(.dict ⟨[de P c204 262 (vs c205 187),de P c206 264 (vs c172 263),de P c207 266 (vi 10 265),de P c208 267 (vr 71)]⟩ 4),⟨[]⟩⟩
abbrev o39 (P:Params):Obj:=⟨(.type l152),none,(.fields ⟨[(vs c172 257),(vs c172 258),(vs c164 259),(vi 10 0),(vi 0 0),(vi 0 0),(vi 0 0),(vi 0 0),(vr 67),(.bool false),(vi 181 0),(vr 68),.none,.none,.none,.none,(vi 260 0),(vi 10 0),(vs c164 261)]⟩),⟨[]⟩⟩
abbrev o40 (P:Params):Obj:=⟨(.type l153),none,.plain,⟨[some (vr 69),some (vr 3),some (vr 66),none,some (vs c205 187),none,some (vr 0)]⟩⟩
abbrev o41 (P:Params):Obj:=⟨(.type l0),none,(.dict ⟨[de P c204 262 (vs c205 187),de P c207 266 (vi 10 265),de P c208 267 (vr 71),de P c2 268 .none]⟩ 2),⟨[]⟩⟩
abbrev o42 (P:Params):Obj:=⟨(.type l72),none,(.cls ⟨c172,[(vr 24)],[(vr 73),(vr 24),(.type l97),(.type l76),(.type l74),(.type l63)],72,c172,true,[],[],false,none,false⟩),⟨[some (vr 64),none,some (vs c172 255),some (vs c172 263),some (.builtin l156),some (.bool true)]⟩⟩
abbrev o43 (P:Params):Obj:=⟨(.type l70),none,(.fields ⟨[(vr 73),(vr 73),(vr 73)]⟩),⟨[]⟩⟩
abbrev o44 (P:Params):Obj:=⟨(.type l154),none,(.fields ⟨[(.builtin l159),(vr 73)]⟩),⟨[]⟩⟩
abbrev o45 (P:Params):Obj:=⟨(.type l0),none,(.dict ⟨[de P c204 278 (vs c205 187),de P c206 280 (vs c173 279),de P c207 282 (vi 12 281),de P c208 283 (vr 83)]⟩ 4),⟨[]⟩⟩
abbrev o46 (P:Params):Obj:=⟨(.type l152),none,(.fields ⟨[(vs c173 273),(vs c173 274),(vs c164 275),(vi 12 0),(vi 0 0),(vi 0 0),(vi 0 0),(vi 0 0),(vr 79),(.bool false),(vi 181 0),(vr 80),.none,.none,.none,.none,(vi 276 0),(vi 12 0),(vs c164 277)]⟩),⟨[]⟩⟩
abbrev o47 (P:Params):Obj:=⟨(.type l153),none,.plain,⟨[some (vr 81),some (vr 3),some (vr 78),none,some (vs c205 187),none,some (vr 0)]⟩⟩
abbrev o48 (P:Params):Obj:=⟨(.type l0),none,(.dict ⟨[de P c204 278 (vs c205 187),de P c207 282 (vi 12 281),de P c208 283 (vr 83),de P c2 284 .none]⟩ 2),⟨[]⟩⟩
abbrev o49 (P:Params):Obj:=⟨(.type l72),none,(.cls ⟨c173,[(vr 24)],[(vr 85),(vr 24),(.type l97),(.type l76),(.type l74),(.type l63)],84,c173,true,[],[],false,none,false⟩),⟨[some (vr 76),none,some (vs c173 271),some (vs c173 279),some (.builtin l156),some (.bool true)]⟩⟩
abbrev o50 (P:Params):Obj:=⟨(.type l70),none,(.fields ⟨[(vr 85),(vr 85),(vr 85)]⟩),⟨[]⟩⟩
abbrev o51 (P:Params):Obj:=⟨(.type l154),none,(.fields ⟨[(.builtin l159),(vr 85)]⟩),⟨[]⟩⟩
abbrev o52 (P:Params):Obj:=⟨(.type l0),none,(.dict ⟨[de P c204 294 (vs c205 187),de P c206 296 (vs c174 295),de P c207 298 (vi 14 297),de P c208 299 (vr 95)]⟩ 4),⟨[]⟩⟩
abbrev o53 (P:Params):Obj:=⟨(.type l152),none,(.fields ⟨[(vs c174 289),(vs c174 290),(vs c164 291),(vi 14 0),(vi 0 0),(vi 0 0),(vi 0 0),(vi 0 0),(vr 91),(.bool false),(vi 181 0),(vr 92),.none,.none,.none,.none,(vi 292 0),(vi 14 0),(vs c164 293)]⟩),⟨[]⟩⟩
abbrev o54 (P:Params):Obj:=⟨(.type l153),none,.plain,⟨[some (vr 93),some (vr 3),some (vr 90),none,some (vs c205 187),none,some (vr 0)]⟩⟩
abbrev o55 (P:Params):Obj:=⟨(.type l0),none,(.dict ⟨[de P c204 294 (vs c205 187),de P c207 298 (vi 14 297),de P c208 299 (vr 95),de P c2 300 .none]⟩ 2),⟨[]⟩⟩
abbrev o56 (P:Params):Obj:=⟨(.type l72),none,(.cls ⟨c174,[(vr 24)],[(vr 97),(vr 24),(.type l97),(.type l76),(.type l74),(.type l63)],96,c174,true,[],[],false,none,false⟩),⟨[some (vr 88),none,some (vs c174 287),some (vs c174 295),some (.builtin l156),some (.bool true)]⟩⟩
abbrev o57 (P:Params):Obj:=⟨(.type l70),none,(.fields ⟨[(vr 97),(vr 97),(vr 97)]⟩),⟨[]⟩⟩
abbrev o58 (P:Params):Obj:=⟨(.type l154),none,(.fields ⟨[(.builtin l159),(vr 97)]⟩),⟨[]⟩⟩
abbrev o59 (P:Params):Obj:=⟨(.type l71),none,(.seq ⟨[(vs c210 310)]⟩ 0),⟨[]⟩⟩
abbrev o60 (P:Params):Obj:=⟨.none,none,(.func ⟨c176,c176,(fA (tp 10)),.stmts (fB (tp 10)),(fS (tp 10)),0,[],.none,.none,.none,.none,none,.none,.none,0⟩),⟨[]⟩⟩
abbrev o61 (P:Params):Obj:=⟨(.type l152),none,(.fields ⟨[(vs c176 307),(vs c176 308),(vs c164 309),(vi 18 0),(vi 1 0),(vi 0 0),(vi 0 0),(vi 3 0),(vr 100),(.bool true),(vi 181 0),(vr 101),.none,(vr 102),(vr 103),(vr 104),(vi 311 0),(vi 18 0),(vs c164 312)]⟩),⟨[]⟩⟩
abbrev o62 (P:Params):Obj:=⟨(.type l160),none,(.func ⟨c176,c176,(fA (tp 10)),.stmts (fB (tp 10)),(fS (tp 10)),3,[],.none,.none,.none,(vs c211 303),none,(vr 105),.none,0⟩),⟨[]⟩⟩
abbrev o63 (P:Params):Obj:=⟨(.type l71),none,(.seq ⟨[(vs c210 317)]⟩ 0),⟨[]⟩⟩
abbrev o64 (P:Params):Obj:=⟨.none,none,(.func ⟨c177,c177,(fA (tp 11)),.stmts (fB (tp 11)),(fS (tp 11)),0,[],.none,.none,.none,.none,none,.none,.none,0⟩),⟨[]⟩⟩
abbrev o65 (P:Params):Obj:=⟨(.type l152),none,(.fields ⟨[(vs c177 314),(vs c177 315),(vs c164 316),(vi 20 0),(vi 1 0),(vi 0 0),(vi 0 0),(vi 3 0),(vr 107),(.bool true),(vi 181 0),(vr 108),.none,(vr 109),(vr 110),(vr 111),(vi 318 0),(vi 20 0),(vs c164 319)]⟩),⟨[]⟩⟩
abbrev o66 (P:Params):Obj:=⟨(.type l160),none,(.func ⟨c177,c177,(fA (tp 11)),.stmts (fB (tp 11)),(fS (tp 11)),3,[],.none,.none,.none,(vs c211 303),none,(vr 112),.none,0⟩),⟨[]⟩⟩
abbrev o67 (P:Params):Obj:=⟨(.type l71),none,(.seq ⟨[(vs c210 324),(vs c212 325)]⟩ 0),⟨[]⟩⟩
abbrev o68 (P:Params):Obj:=⟨.none,none,(.func ⟨c178,c178,(fA (tp 12)),.stmts (fB (tp 12)),(fS (tp 12)),0,[],.none,.none,.none,.none,none,.none,.none,0⟩),⟨[]⟩⟩
abbrev o69 (P:Params):Obj:=⟨(.type l152),none,(.fields ⟨[(vs c178 321),(vs c178 322),(vs c164 323),(vi 22 0),(vi 2 0),(vi 0 0),(vi 0 0),(vi 3 0),(vr 114),(.bool true),(vi 181 0),(vr 115),.none,(vr 116),(vr 117),(vr 118),(vi 326 0),(vi 22 0),(vs c164 327)]⟩),⟨[]⟩⟩
abbrev o70 (P:Params):Obj:=⟨(.type l160),none,(.func ⟨c178,c178,(fA (tp 12)),.stmts (fB (tp 12)),(fS (tp 12)),3,[],.none,.none,.none,(vs c211 303),none,(vr 119),.none,0⟩),⟨[]⟩⟩
abbrev o71 (P:Params):Obj:=⟨(.type l71),none,(.seq ⟨[(vs c210 332)]⟩ 0),⟨[]⟩⟩
abbrev o72 (P:Params):Obj:=⟨.none,none,(.func ⟨c179,c179,(fA (tp 13)),.stmts (fB (tp 13)),(fS (tp 13)),0,[],.none,.none,.none,.none,none,.none,.none,0⟩),⟨[]⟩⟩
abbrev o73 (P:Params):Obj:=⟨(.type l152),none,(.fields ⟨[(vs c179 329),(vs c179 330),(vs c164 331),(vi 24 0),(vi 1 0),(vi 0 0),(vi 0 0),(vi 3 0),(vr 121),(.bool true),(vi 181 0),(vr 122),.none,(vr 123),(vr 124),(vr 125),(vi 333 0),(vi 24 0),(vs c164 334)]⟩),⟨[]⟩⟩
abbrev o74 (P:Params):Obj:=⟨(.type l160),none,(.func ⟨c179,c179,(fA (tp 13)),.stmts (fB (tp 13)),(fS (tp 13)),3,[],.none,.none,.none,(vs c211 303),none,(vr 126),.none,0⟩),⟨[]⟩⟩
abbrev o75 (P:Params):Obj:=⟨.none,none,(.func ⟨c180,c180,(fA (tp 14)),.stmts (fB (tp 14)),(fS (tp 14)),0,[],.none,.none,.none,.none,none,.none,.none,0⟩),⟨[]⟩⟩
abbrev o76 (P:Params):Obj:=⟨(.type l152),none,(.fields ⟨[(vs c180 336),(vs c180 337),(vs c164 338),(vi 26 0),(vi 1 0),(vi 0 0),(vi 0 0),(vi 3 0),(vr 128),(.bool true),(vi 181 0),(vr 129),.none,.none,.none,(vr 130),(vi 339 0),(vi 26 0),(vs c164 340)]⟩),⟨[]⟩⟩
abbrev o77 (P:Params):Obj:=⟨(.type l160),none,(.func ⟨c180,c180,(fA (tp 14)),.stmts (fB (tp 14)),(fS (tp 14)),3,[],.none,.none,.none,(vs c211 303),none,(vr 131),.none,0⟩),⟨[]⟩⟩
abbrev o78 (P:Params):Obj:=⟨.none,none,(.func ⟨c186,c186,(fA (tp 19)),.stmts (fB (tp 19)),(fS (tp 19)),0,[],.none,.none,.none,.none,none,.none,.none,0⟩),⟨[]⟩⟩
abbrev o79 (P:Params):Obj:=⟨(.type l152),none,(.fields ⟨[(vs c186 350),(vs c186 351),(vs c164 352),(vi 32 0),(vi 1 0),(vi 0 0),(vi 0 0),(vi 3 0),(vr 133),(.bool true),(vi 181 0),(vr 134),.none,.none,.none,(vr 135),(vi 353 0),(vi 32 0),(vs c164 354)]⟩),⟨[]⟩⟩
abbrev o80 (P:Params):Obj:=⟨(.type l160),none,(.func ⟨c186,c186,(fA (tp 19)),.stmts (fB (tp 19)),(fS (tp 19)),3,[],.none,.none,.none,(vs c213 342),none,(vr 136),.none,0⟩),⟨[]⟩⟩
abbrev o81 (P:Params):Obj:=⟨.none,none,(.func ⟨c187,c187,(fA (tp 20)),.stmts (fB (tp 20)),(fS (tp 20)),0,[],.none,.none,.none,.none,none,.none,.none,0⟩),⟨[]⟩⟩
abbrev o82 (P:Params):Obj:=⟨(.type l152),none,(.fields ⟨[(vs c187 356),(vs c187 357),(vs c164 358),(vi 38 0),(vi 1 0),(vi 0 0),(vi 0 0),(vi 3 0),(vr 138),(.bool true),(vi 181 0),(vr 139),.none,.none,.none,(vr 140),(vi 359 0),(vi 38 0),(vs c164 360)]⟩),⟨[]⟩⟩
abbrev o83 (P:Params):Obj:=⟨(.type l160),none,(.func ⟨c187,c187,(fA (tp 20)),.stmts (fB (tp 20)),(fS (tp 20)),3,[],.none,.none,.none,(vs c213 342),none,(vr 141),.none,0⟩),⟨[]⟩⟩
abbrev o84 (P:Params):Obj:=⟨(.type l71),none,(.seq ⟨[(vs c214 365),(vs c215 366),(vs c216 367)]⟩ 0),⟨[]⟩⟩
abbrev o85 (P:Params):Obj:=⟨.none,none,(.func ⟨c188,c188,(fA (tp 21)),.stmts (fB (tp 21)),(fS (tp 21)),0,[],.none,.none,.none,.none,none,.none,.none,0⟩),⟨[]⟩⟩
abbrev o86 (P:Params):Obj:=⟨(.type l152),none,(.fields ⟨[(vs c188 362),(vs c188 363),(vs c164 364),(vi 44 0),(vi 1 0),(vi 0 0),(vi 0 0),(vi 3 0),(vr 143),(.bool true),(vi 181 0),(vr 144),.none,(vr 145),(vr 146),(vr 147),(vi 368 0),(vi 44 0),(vs c164 369)]⟩),⟨[]⟩⟩
abbrev o87 (P:Params):Obj:=⟨(.type l160),none,(.func ⟨c188,c188,(fA (tp 21)),.stmts (fB (tp 21)),(fS (tp 21)),3,[],.none,.none,.none,(vs c213 342),none,(vr 148),.none,0⟩),⟨[]⟩⟩
abbrev o88 (P:Params):Obj:=⟨(.type l71),none,(.seq ⟨[(vs c214 374)]⟩ 0),⟨[]⟩⟩
abbrev o89 (P:Params):Obj:=⟨.none,none,(.func ⟨c189,c189,(fA (tp 22)),.stmts (fB (tp 22)),(fS (tp 22)),0,[],.none,.none,.none,.none,none,.none,.none,0⟩),⟨[]⟩⟩
abbrev o90 (P:Params):Obj:=⟨(.type l152),none,(.fields ⟨[(vs c189 371),(vs c189 372),(vs c164 373),(vi 50 0),(vi 1 0),(vi 0 0),(vi 0 0),(vi 3 0),(vr 150),(.bool true),(vi 181 0),(vr 151),.none,(vr 152),(vr 153),(vr 154),(vi 375 0),(vi 50 0),(vs c164 376)]⟩),⟨[]⟩⟩
abbrev o91 (P:Params):Obj:=⟨(.type l160),none,(.func ⟨c189,c189,(fA (tp 22)),.stmts (fB (tp 22)),(fS (tp 22)),3,[],.none,.none,.none,(vs c213 342),none,(vr 155),.none,0⟩),⟨[]⟩⟩
abbrev o92 (P:Params):Obj:=⟨.none,none,(.func ⟨c190,c190,(fA (tp 23)),.stmts (fB (tp 23)),(fS (tp 23)),0,[],.none,.none,.none,.none,none,.none,.none,0⟩),⟨[]⟩⟩
abbrev o93 (P:Params):Obj:=⟨(.type l152),none,(.fields ⟨[(vs c190 378),(vs c190 379),(vs c164 380),(vi 54 0),(vi 1 0),(vi 0 0),(vi 0 0),(vi 3 0),(vr 157),(.bool true),(vi 181 0),(vr 158),.none,.none,.none,(vr 159),(vi 381 0),(vi 54 0),(vs c164 382)]⟩),⟨[]⟩⟩
abbrev o94 (P:Params):Obj:=⟨(.type l160),none,(.func ⟨c190,c190,(fA (tp 23)),.stmts (fB (tp 23)),(fS (tp 23)),3,[],.none,.none,.none,(vs c213 342),none,(vr 160),.none,0⟩),⟨[]⟩⟩
abbrev o95 (P:Params):Obj:=⟨(.type l71),none,(.seq ⟨[(vs c217 389),(vs c218 390)]⟩ 0),⟨[]⟩⟩
abbrev o96 (P:Params):Obj:=⟨.none,none,(.func ⟨c191,c191,(fA (tp 25)),.stmts (fB (tp 25)),(fS (tp 25)),0,[],.none,.none,.none,.none,none,.none,.none,0⟩),⟨[]⟩⟩
abbrev o97 (P:Params):Obj:=⟨(.type l152),none,(.fields ⟨[(vs c191 386),(vs c191 387),(vs c164 388),(vi 59 0),(vi 2 0),(vi 0 0),(vi 0 0),(vi 3 0),(vr 162),(.bool true),(vi 181 0),(vr 163),.none,(vr 164),(vr 165),(vr 166),(vi 391 0),(vi 59 0),(vs c164 392)]⟩),⟨[]⟩⟩
abbrev o98 (P:Params):Obj:=⟨(.type l160),none,(.func ⟨c191,c191,(fA (tp 25)),.stmts (fB (tp 25)),(fS (tp 25)),3,[],.none,.none,.none,(vs c167 384),none,(vr 167),.none,0⟩),⟨[]⟩⟩
abbrev o99 (P:Params):Obj:=⟨(.type l71),none,(.seq ⟨[(vs c219 397),(vs c218 398),(vs c220 399),(vs c221 400)]⟩ 0),⟨[]⟩⟩
abbrev o100 (P:Params):Obj:=⟨.none,none,(.func ⟨c192,c192,(fA (tp 26)),.stmts (fB (tp 26)),(fS (tp 26)),0,[],.none,.none,.none,.none,none,.none,.none,0⟩),⟨[]⟩⟩
abbrev o101 (P:Params):Obj:=⟨(.type l152),none,(.fields ⟨[(vs c192 394),(vs c192 395),(vs c164 396),(vi 63 0),(vi 3 0),(vi 0 0),(vi 0 0),(vi 3 0),(vr 169),(.bool true),(vi 181 0),(vr 170),.none,(vr 171),(vr 172),(vr 173),(vi 401 0),(vi 63 0),(vs c164 402)]⟩),⟨[]⟩⟩
abbrev o102 (P:Params):Obj:=⟨(.type l160),none,(.func ⟨c192,c192,(fA (tp 26)),.stmts (fB (tp 26)),(fS (tp 26)),3,[],.none,.none,.none,(vs c167 384),none,(vr 174),.none,0⟩),⟨[]⟩⟩
abbrev o103 (P:Params):Obj:=⟨(.type l71),none,(.seq ⟨[(vs c217 407),(vs c222 408),(vs c223 409),(vs c218 410),(vs c224 411)]⟩ 0),⟨[]⟩⟩
abbrev o104 (P:Params):Obj:=⟨.none,none,(.func ⟨c193,c193,(fA (tp 27)),.stmts (fB (tp 27)),(fS (tp 27)),0,[],.none,.none,.none,.none,none,.none,.none,0⟩),⟨[]⟩⟩
abbrev o105 (P:Params):Obj:=⟨(.type l152),none,(.fields ⟨[(vs c193 404),(vs c193 405),(vs c164 406),(vi 66 0),(vi 1 0),(vi 0 0),(vi 0 0),(vi 3 0),(vr 176),(.bool true),(vi 181 0),(vr 177),.none,(vr 178),(vr 179),(vr 180),(vi 412 0),(vi 66 0),(vs c164 413)]⟩),⟨[]⟩⟩
abbrev o106 (P:Params):Obj:=⟨(.type l160),none,(.func ⟨c193,c193,(fA (tp 27)),.stmts (fB (tp 27)),(fS (tp 27)),3,[],.none,.none,.none,(vs c167 384),none,(vr 181),.none,0⟩),⟨[]⟩⟩
abbrev o107 (P:Params):Obj:=⟨.none,none,(.func ⟨c194,c194,(fA (tp 28)),.stmts (fB (tp 28)),(fS (tp 28)),0,[],.none,.none,.none,.none,none,.none,.none,0⟩),⟨[]⟩⟩
abbrev o108 (P:Params):Obj:=⟨(.type l152),none,(.fields ⟨[(vs c194 415),(vs c194 416),(vs c164 417),(vi 75 0),(vi 1 0),(vi 0 0),(vi 0 0),(vi 3 0),(vr 183),(.bool true),(vi 181 0),(vr 184),.none,.none,.none,(vr 185),(vi 418 0),(vi 75 0),(vs c164 419)]⟩),⟨[]⟩⟩
abbrev o109 (P:Params):Obj:=⟨(.type l160),none,(.func ⟨c194,c194,(fA (tp 28)),.stmts (fB (tp 28)),(fS (tp 28)),3,[],.none,.none,.none,(vs c167 384),none,(vr 186),.none,0⟩),⟨[]⟩⟩
abbrev o110 (P:Params):Obj:=⟨(.type l71),none,(.seq ⟨[(vs c225 424),(vs c226 425)]⟩ 0),⟨[]⟩⟩
abbrev o111 (P:Params):Obj:=⟨.none,none,(.func ⟨c195,c195,(fA (tp 29)),.stmts (fB (tp 29)),(fS (tp 29)),0,[],.none,.none,.none,.none,none,.none,.none,0⟩),⟨[]⟩⟩
abbrev o112 (P:Params):Obj:=⟨(.type l152),none,(.fields ⟨[(vs c195 421),(vs c195 422),(vs c164 423),(vi 82 0),(vi 2 0),(vi 0 0),(vi 0 0),(vi 3 0),(vr 188),(.bool true),(vi 181 0),(vr 189),.none,(vr 190),(vr 191),(vr 192),(vi 426 0),(vi 82 0),(vs c164 427)]⟩),⟨[]⟩⟩
abbrev o113 (P:Params):Obj:=⟨(.type l160),none,(.func ⟨c195,c195,(fA (tp 29)),.stmts (fB (tp 29)),(fS (tp 29)),3,[],.none,.none,.none,(vs c167 384),none,(vr 193),.none,0⟩),⟨[]⟩⟩
abbrev o114 (P:Params):Obj:=⟨(.type l71),none,(.seq ⟨[(vs c227 432)]⟩ 0),⟨[]⟩⟩
abbrev o115 (P:Params):Obj:=⟨.none,none,(.func ⟨c196,c196,(fA (tp 30)),.stmts (fB (tp 30)),(fS (tp 30)),0,[],.none,.none,.none,.none,none,.none,.none,0⟩),⟨[]⟩⟩
abbrev o116 (P:Params):Obj:=⟨(.type l152),none,(.fields ⟨[(vs c196 429),(vs c196 430),(vs c164 431),(vi 87 0),(vi 1 0),(vi 0 0),(vi 0 0),(vi 3 0),(vr 195),(.bool true),(vi 181 0),(vr 196),.none,(vr 197),(vr 198),(vr 199),(vi 433 0),(vi 87 0),(vs c164 434)]⟩),⟨[]⟩⟩
abbrev o117 (P:Params):Obj:=⟨(.type l160),none,(.func ⟨c196,c196,(fA (tp 30)),.stmts (fB (tp 30)),(fS (tp 30)),3,[],.none,.none,.none,(vs c167 384),none,(vr 200),.none,0⟩),⟨[]⟩⟩
abbrev o118 (P:Params):Obj:=⟨.none,none,(.func ⟨c197,c197,(fA (tp 31)),.stmts (fB (tp 31)),(fS (tp 31)),0,[],.none,.none,.none,.none,none,.none,.none,0⟩),⟨[]⟩⟩
abbrev o119 (P:Params):Obj:=⟨(.type l152),none,(.fields ⟨[(vs c197 436),(vs c197 437),(vs c164 438),(vi 89 0),(vi 1 0),(vi 0 0),(vi 0 0),(vi 3 0),(vr 202),(.bool true),(vi 181 0),(vr 203),.none,.none,.none,(vr 204),(vi 439 0),(vi 89 0),(vs c164 440)]⟩),⟨[]⟩⟩
abbrev o120 (P:Params):Obj:=⟨(.type l160),none,(.func ⟨c197,c197,(fA (tp 31)),.stmts (fB (tp 31)),(fS (tp 31)),3,[],.none,.none,.none,(vs c167 384),none,(vr 205),.none,0⟩),⟨[]⟩⟩
abbrev o121 (P:Params):Obj:=⟨(.type l71),none,(.seq ⟨[(vs c228 445)]⟩ 0),⟨[]⟩⟩
abbrev o122 (P:Params):Obj:=⟨.none,none,(.func ⟨c198,c198,(fA (tp 32)),.stmts (fB (tp 32)),(fS (tp 32)),0,[],.none,.none,.none,.none,none,.none,.none,0⟩),⟨[]⟩⟩
abbrev o123 (P:Params):Obj:=⟨(.type l152),none,(.fields ⟨[(vs c198 442),(vs c198 443),(vs c164 444),(vi 91 0),(vi 1 0),(vi 0 0),(vi 0 0),(vi 3 0),(vr 207),(.bool true),(vi 181 0),(vr 208),.none,(vr 209),(vr 210),(vr 211),(vi 446 0),(vi 91 0),(vs c164 447)]⟩),⟨[]⟩⟩
abbrev o124 (P:Params):Obj:=⟨(.type l160),none,(.func ⟨c198,c198,(fA (tp 32)),.stmts (fB (tp 32)),(fS (tp 32)),3,[],.none,.none,.none,(vs c167 384),none,(vr 212),.none,0⟩),⟨[]⟩⟩
abbrev o125 (P:Params):Obj:=⟨(.type l71),none,(.seq ⟨[(vs c228 452),(vs c223 453),(vs c229 454),(vs c230 455),(vs c231 456),(vs c224 457)]⟩ 0),⟨[]⟩⟩
abbrev o126 (P:Params):Obj:=⟨.none,none,(.func ⟨c199,c199,(fA (tp 33)),.stmts (fB (tp 33)),(fS (tp 33)),0,[],.none,.none,.none,.none,none,.none,.none,0⟩),⟨[]⟩⟩
abbrev o127 (P:Params):Obj:=⟨(.type l152),none,(.fields ⟨[(vs c199 449),(vs c199 450),(vs c164 451),(vi 95 0),(vi 1 0),(vi 0 0),(vi 0 0),(vi 3 0),(vr 214),(.bool true),(vi 181 0),(vr 215),.none,(vr 216),(vr 217),(vr 218),(vi 458 0),(vi 95 0),(vs c164 459)]⟩),⟨[]⟩⟩
abbrev o128 (P:Params):Obj:=⟨(.type l160),none,(.func ⟨c199,c199,(fA (tp 33)),.stmts (fB (tp 33)),(fS (tp 33)),3,[],.none,.none,.none,(vs c167 384),none,(vr 219),.none,0⟩),⟨[]⟩⟩
abbrev o129 (P:Params):Obj:=⟨(.type l71),none,(.seq ⟨[(vs c228 464),(vs c232 465),(vs c233 466)]⟩ 0),⟨[]⟩⟩
abbrev o130 (P:Params):Obj:=⟨.none,none,(.func ⟨c200,c200,(fA (tp 34)),.stmts (fB (tp 34)),(fS (tp 34)),0,[],.none,.none,.none,.none,none,.none,.none,0⟩),⟨[]⟩⟩
abbrev o131 (P:Params):Obj:=⟨(.type l152),none,(.fields ⟨[(vs c200 461),(vs c200 462),(vs c164 463),(vi 106 0),(vi 1 0),(vi 0 0),(vi 0 0),(vi 3 0),(vr 221),(.bool true),(vi 181 0),(vr 222),.none,(vr 223),(vr 224),(vr 225),(vi 467 0),(vi 106 0),(vs c164 468)]⟩),⟨[]⟩⟩
abbrev o132 (P:Params):Obj:=⟨(.type l160),none,(.func ⟨c200,c200,(fA (tp 34)),.stmts (fB (tp 34)),(fS (tp 34)),3,[],.none,.none,.none,(vs c167 384),none,(vr 226),.none,0⟩),⟨[]⟩⟩
abbrev o133 (P:Params):Obj:=⟨(.type l71),none,(.seq ⟨[(vs c228 473),(vs c234 474),(vs c223 475)]⟩ 0),⟨[]⟩⟩
abbrev o134 (P:Params):Obj:=⟨.none,none,(.func ⟨c201,c201,(fA (tp 35)),.stmts (fB (tp 35)),(fS (tp 35)),0,[],.none,.none,.none,.none,none,.none,.none,0⟩),⟨[]⟩⟩
abbrev o135 (P:Params):Obj:=⟨(.type l152),none,(.fields ⟨[(vs c201 470),(vs c201 471),(vs c164 472),(vi 114 0),(vi 1 0),(vi 0 0),(vi 0 0),(vi 3 0),(vr 228),(.bool true),(vi 181 0),(vr 229),.none,(vr 230),(vr 231),(vr 232),(vi 476 0),(vi 114 0),(vs c164 477)]⟩),⟨[]⟩⟩
abbrev o136 (P:Params):Obj:=⟨(.type l160),none,(.func ⟨c201,c201,(fA (tp 35)),.stmts (fB (tp 35)),(fS (tp 35)),3,[],.none,.none,.none,(vs c167 384),none,(vr 233),.none,0⟩),⟨[]⟩⟩
abbrev o137 (P:Params):Obj:=⟨(.type l71),none,(.seq ⟨[(vs c235 482)]⟩ 0),⟨[]⟩⟩
abbrev o138 (P:Params):Obj:=⟨.none,none,(.func ⟨c202,c202,(fA (tp 36)),.stmts (fB (tp 36)),(fS (tp 36)),0,[],.none,.none,.none,.none,none,.none,.none,0⟩),⟨[]⟩⟩
abbrev o139 (P:Params):Obj:=⟨(.type l152),none,(.fields ⟨[(vs c202 479),(vs c202 480),(vs c164 481),(vi 123 0),(vi 0 0),(vi 0 0),(vi 0 0),(vi 3 0),(vr 235),(.bool true),(vi 181 0),(vr 236),.none,(vr 237),(vr 238),(vr 239),(vi 483 0),(vi 123 0),(vs c164 484)]⟩),⟨[]⟩⟩
abbrev o140 (P:Params):Obj:=⟨(.type l160),none,(.func ⟨c202,c202,(fA (tp 36)),.stmts (fB (tp 36)),(fS (tp 36)),3,[],.none,.none,.none,(vs c167 384),none,(vr 240),.none,0⟩),⟨[]⟩⟩
abbrev o141 (P:Params):Obj:=⟨.none,none,(.func ⟨c203,c203,(fA (tp 37)),.stmts (fB (tp 37)),(fS (tp 37)),0,[],.none,.none,.none,.none,none,.none,.none,0⟩),⟨[]⟩⟩
abbrev o142 (P:Params):Obj:=⟨(.type l152),none,(.fields ⟨[(vs c203 486),(vs c203 487),(vs c164 488),(vi 130 0),(vi 1 0),(vi 0 0),(vi 0 0),(vi 3 0),(vr 242),(.bool true),(vi 181 0),(vr 243),.none,.none,.none,(vr 244),(vi 489 0),(vi 130 0),(vs c164 490)]⟩),⟨[]⟩⟩
abbrev o143 (P:Params):Obj:=⟨(.type l160),none,(.func ⟨c203,c203,(fA (tp 37)),.stmts (fB (tp 37)),(fS (tp 37)),3,[],.none,.none,.none,(vs c167 384),none,(vr 245),.none,0⟩),⟨[]⟩⟩
abbrev ha (P:Params):Heap:=⟨⟨[boot_o_0 P,boot_o_1 P,boot_o_2 P,boot_o_3 P,boot_o_4 P,boot_o_5 P,boot_o_6 P,boot_o_7 P,boot_o_8 P,boot_o_9 P,boot_o_10 P,o0 P,o1 P,o2 P,o3 P]⟩,{}⟩
abbrev t0 (P:Params):BT:=(.node (boot_o_0 P) (.node (boot_o_1 P) (.node (boot_o_3 P) (.node (boot_o_7 P) .nil .nil) (.node (o0 P) .nil .nil)) (.node (boot_o_5 P) (.node (boot_o_9 P) .nil .nil) (.node (o2 P) .nil .nil))) (.node (boot_o_2 P) (.node (boot_o_4 P) (.node (boot_o_8 P) .nil .nil) (.node (o1 P) .nil .nil)) (.node (boot_o_6 P) (.node (boot_o_10 P) .nil .nil) (.node (o3 P) .nil .nil))))
abbrev t1 (P:Params):BT:=(.node (boot_o_0 P) (.node (boot_o_1 P) (.node (o4 P) (.node (boot_o_7 P) (.node (o6 P) (.node (o0 P) (.node (o37 P) (.node (o74 P) .nil .nil) (.node (o0 P) .nil .nil)) (.node (o0 P) (.node (o92 P) .nil .nil) (.node (o129 P) .nil .nil))) (.node (o0 P) (.node (o0 P) (.node (o0 P) .nil .nil) (.node (o0 P) .nil .nil)) (.node (o64 P) (.node (o102 P) .nil .nil) (.node (o138 P) .nil .nil)))) (.node (o11 P) (.node (o23 P) (.node (o0 P) (.node (o78 P) .nil .nil) (.node (o115 P) .nil .nil)) (.node (o0 P) (.node (o97 P) .nil .nil) (.node (o0 P) .nil .nil))) (.node (o0 P) (.node (o51 P) (.node (o1 P) .nil .nil) (.node (o1 P) .nil .nil)) (.node (o69 P) (.node (o0 P) .nil .nil) .nil)))) (.node (o0 P) (.node (o1 P) (.node (o0 P) (.node (o0 P) (.node (o76 P) .nil .nil) (.node (o0 P) .nil .nil)) (.node (o58 P) (.node (o1 P) .nil .nil) (.node (o132 P) .nil .nil))) (.node (o30 P) (.node (o0 P) (.node (o85 P) .nil .nil) (.node (o122 P) .nil .nil)) (.node (o1 P) (.node (o0 P) .nil .nil) (.node (o1 P) .nil .nil)))) (.node (o15 P) (.node (o0 P) (.node (o44 P) (.node (o1 P) .nil .nil) (.node (o1 P) .nil .nil)) (.node (o0 P) (.node (o99 P) .nil .nil) (.node (o0 P) .nil .nil))) (.node (o0 P) (.node (o0 P) (.node (o90 P) .nil .nil) (.node (o127 P) .nil .nil)) (.node (o71 P) (.node (o109 P) .nil .nil) .nil))))) (.node (boot_o_5 P) (.node (boot_o_9 P) (.node (o8 P) (.node (o18 P) (.node (o7 P) (.node (o1 P) .nil .nil) (.node (o112 P) .nil .nil)) (.node (o56 P) (.node (o94 P) .nil .nil) (.node (o130 P) .nil .nil))) (.node (o28 P) (.node (o46 P) (.node (o84 P) .nil .nil) (.node (o121 P) .nil .nil)) (.node (o66 P) (.node (o1 P) .nil .nil) (.node (o140 P) .nil .nil)))) (.node (o13 P) (.node (o7 P) (.node (o42 P) (.node (o80 P) .nil .nil) (.node (o117 P) .nil .nil)) (.node (o61 P) (.node (o0 P) .nil .nil) (.node (o135 P) .nil .nil))) (.node (o32 P) (.node (o7 P) (.node (o0 P) .nil .nil) (.node (o0 P) .nil .nil)) (.node (o0 P) (.node (o107 P) .nil .nil) .nil)))) (.node (o2 P) (.node (o10 P) (.node (o21 P) (.node (o39 P) (.node (o0 P) .nil .nil) (.node (o114 P) .nil .nil)) (.node (o1 P) (.node (o0 P) .nil .nil) (.node (o1 P) .nil .nil))) (.node (o7 P) (.node (o49 P) (.node (o87 P) .nil .nil) (.node (o124 P) .nil .nil)) (.node (o0 P) (.node (o105 P) .nil .nil) (.node (o142 P) .nil .nil)))) (.node (o7 P) (.node (o25 P) (.node (o7 P) (.node (o82 P) .nil .nil) (.node (o119 P) .nil .nil)) (.node (o63 P) (.node (o100 P) .nil .nil) (.node (o137 P) .nil .nil))) (.node (o35 P) (.node (o53 P) (.node (o0 P) .nil .nil) (.node (o0 P) .nil .nil)) (.node (o72 P) (.node (o1 P) .nil .nil) .nil)))))) (.node (boot_o_2 P) (.node (boot_o_4 P) (.node (boot_o_8 P) (.node (o7 P) (.node (o1 P) (.node (o16 P) (.node (o0 P) .nil .nil) (.node (o111 P) .nil .nil)) (.node (o55 P) (.node (o93 P) .nil .nil) (.node (o0 P) .nil .nil))) (.node (o27 P) (.node (o1 P) (.node (o1 P) .nil .nil) (.node (o1 P) .nil .nil)) (.node (o65 P) (.node (o0 P) .nil .nil) (.node (o139 P) .nil .nil)))) (.node (o12 P) (.node (o16 P) (.node (o41 P) (.node (o79 P) .nil .nil) (.node (o116 P) .nil .nil)) (.node (o60 P) (.node (o98 P) .nil .nil) (.node (o134 P) .nil .nil))) (.node (o1 P) (.node (o16 P) (.node (o88 P) .nil .nil) (.node (o125 P) .nil .nil)) (.node (o70 P) (.node (o1 P) .nil .nil) .nil)))) (.node (o5 P) (.node (o9 P) (.node (o20 P) (.node (o1 P) (.node (o77 P) .nil .nil) (.node (o1 P) .nil .nil)) (.node (o0 P) (.node (o95 P) .nil .nil) (.node (o0 P) .nil .nil))) (.node (o16 P) (.node (o48 P) (.node (o86 P) .nil .nil) (.node (o123 P) .nil .nil)) (.node (o67 P) (.node (o104 P) .nil .nil) (.node (o141 P) .nil .nil)))) (.node (o16 P) (.node (o1 P) (.node (o16 P) (.node (o81 P) .nil .nil) (.node (o118 P) .nil .nil)) (.node (o1 P) (.node (o0 P) .nil .nil) (.node (o1 P) .nil .nil))) (.node (o34 P) (.node (o1 P) (.node (o91 P) .nil .nil) (.node (o128 P) .nil .nil)) (.node (o0 P) (.node (o0 P) .nil .nil) .nil))))) (.node (boot_o_6 P) (.node (boot_o_10 P) (.node (o0 P) (.node (o19 P) (.node (o38 P) (.node (o75 P) .nil .nil) (.node (o113 P) .nil .nil)) (.node (o57 P) (.node (o0 P) .nil .nil) (.node (o131 P) .nil .nil))) (.node (o29 P) (.node (o47 P) (.node (o0 P) .nil .nil) (.node (o0 P) .nil .nil)) (.node (o0 P) (.node (o103 P) .nil .nil) (.node (o0 P) .nil .nil)))) (.node (o14 P) (.node (o24 P) (.node (o43 P) (.node (o0 P) .nil .nil) (.node (o0 P) .nil .nil)) (.node (o62 P) (.node (o1 P) .nil .nil) (.node (o136 P) .nil .nil))) (.node (o33 P) (.node (o52 P) (.node (o89 P) .nil .nil) (.node (o126 P) .nil .nil)) (.node (o1 P) (.node (o108 P) .nil .nil) .nil)))) (.node (o3 P) (.node (o0 P) (.node (o22 P) (.node (o40 P) (.node (o1 P) .nil .nil) (.node (o0 P) .nil .nil)) (.node (o59 P) (.node (o96 P) .nil .nil) (.node (o133 P) .nil .nil))) (.node (o31 P) (.node (o50 P) (.node (o0 P) .nil .nil) (.node (o0 P) .nil .nil)) (.node (o68 P) (.node (o106 P) .nil .nil) (.node (o143 P) .nil .nil)))) (.node (o17 P) (.node (o26 P) (.node (o45 P) (.node (o83 P) .nil .nil) (.node (o120 P) .nil .nil)) (.node (o0 P) (.node (o101 P) .nil .nil) (.node (o0 P) .nil .nil))) (.node (o36 P) (.node (o54 P) (.node (o1 P) .nil .nil) (.node (o1 P) .nil .nil)) (.node (o73 P) (.node (o110 P) .nil .nil) .nil)))))))
abbrev hf (P:Params):Heap:=⟨⟨((boot_o_0 P) :: (boot_o_1 P) :: (boot_o_2 P) :: (o4 P) :: (boot_o_4 P) :: (boot_o_5 P) :: (boot_o_6 P) :: (boot_o_7 P) :: (boot_o_8 P) :: (boot_o_9 P) :: (boot_o_10 P) :: (o0 P) :: (o5 P) :: (o2 P) :: (o3 P) :: (o6 P) :: (o7 P) :: (o8 P) :: (o0 P) :: (o1 P) :: (o9 P) :: (o10 P) :: (o0 P) :: (o11 P) :: (o12 P) :: (o13 P) :: (o14 P) :: (o15 P) :: (o16 P) :: (o7 P) :: (o17 P) :: (o0 P) :: (o1 P) :: (o18 P) :: (o19 P) :: (o0 P) :: (o20 P) :: (o21 P) :: (o22 P) :: (o23 P) :: (o16 P) :: (o7 P) :: (o24 P) :: (o0 P) :: (o1 P) :: (o25 P) :: (o26 P) :: (o0 P) :: (o27 P) :: (o28 P) :: (o29 P) :: (o30 P) :: (o16 P) :: (o7 P) :: (o31 P) :: (o0 P) :: (o1 P) :: (o32 P) :: (o33 P) :: (o0 P) :: (o34 P) :: (o35 P) :: (o36 P) :: (o37 P) :: (o16 P) :: (o7 P) :: (o38 P) :: (o0 P) :: (o1 P) :: (o39 P) :: (o40 P) :: (o0 P) :: (o41 P) :: (o42 P) :: (o43 P) :: (o44 P) :: (o16 P) :: (o7 P) :: (o45 P) :: (o0 P) :: (o1 P) :: (o46 P) :: (o47 P) :: (o0 P) :: (o48 P) :: (o49 P) :: (o50 P) :: (o51 P) :: (o16 P) :: (o7 P) :: (o52 P) :: (o0 P) :: (o1 P) :: (o53 P) :: (o54 P) :: (o0 P) :: (o55 P) :: (o56 P) :: (o57 P) :: (o58 P) :: (o0 P) :: (o1 P) :: (o59 P) :: (o0 P) :: (o60 P) :: (o61 P) :: (o62 P) :: (o0 P) :: (o1 P) :: (o63 P) :: (o0 P) :: (o64 P) :: (o65 P) :: (o66 P) :: (o0 P) :: (o1 P) :: (o67 P) :: (o0 P) :: (o68 P) :: (o69 P) :: (o70 P) :: (o0 P) :: (o1 P) :: (o71 P) :: (o0 P) :: (o72 P) :: (o73 P) :: (o74 P) :: (o0 P) :: (o1 P) :: (o75 P) :: (o76 P) :: (o77 P) :: (o0 P) :: (o1 P) :: (o78 P) :: (o79 P) :: (o80 P) :: (o0 P) :: (o1 P) :: (o81 P) :: (o82 P) :: (o83 P) :: (o0 P) :: (o1 P) :: (o84 P) :: (o0 P) :: (o85 P) :: (o86 P) :: (o87 P) :: (o0 P) :: (o1 P) :: (o88 P) :: (o0 P) :: (o89 P) :: (o90 P) :: (o91 P) :: (o0 P) :: (o1 P) :: (o92 P) :: (o93 P) :: (o94 P) :: (o0 P) :: (o1 P) :: (o95 P) :: (o0 P) :: (o96 P) :: (o97 P) :: (o98 P) :: (o0 P) :: (o1 P) :: (o99 P) :: (o0 P) :: (o100 P) :: (o101 P) :: (o102 P) :: (o0 P) :: (o1 P) :: (o103 P) :: (o0 P) :: (o104 P) :: (o105 P) :: (o106 P) :: (o0 P) :: (o1 P) :: (o107 P) :: (o108 P) :: (o109 P) :: (o0 P) :: (o1 P) :: (o110 P) :: (o0 P) :: (o111 P) :: (o112 P) :: (o113 P) :: (o0 P) :: (o1 P) :: (o114 P) :: (o0 P) :: (o115 P) :: (o116 P) :: (o117 P) :: (o0 P) :: (o1 P) :: (o118 P) :: (o119 P) :: (o120 P) :: (o0 P) :: (o1 P) :: (o121 P) :: (o0 P) :: (o122 P) :: (o123 P) :: (o124 P) :: (o0 P) :: (o1 P) :: (o125 P) :: (o0 P) :: (o126 P) :: (o127 P) :: (o128 P) :: (o0 P) :: (o1 P) :: (o129 P) :: (o0 P) :: (o130 P) :: (o131 P) :: (o132 P) :: (o0 P) :: (o1 P) :: (o133 P) :: (o0 P) :: (o134 P) :: (o135 P) :: (o136 P) :: (o0 P) :: (o1 P) :: (o137 P) :: (o0 P) :: (o138 P) :: (o139 P) :: (o140 P) :: (o0 P) :: (o1 P) :: (o141 P) :: (o142 P) :: (o143 P) :: [])⟩,{}⟩
abbrev b':List Stmt:=behindTheImports p'
abbrev env':Env:={ scope:=p'.main.scope,locals:=mainNs,globals:=mainNs,cells:=[],code:=(vr 13),frame:=some 14 }
abbrev cE:Code:=.body b' env'
abbrev qp:Pos:=⟨0,0,0,0⟩
abbrev B:List Frame:=[topFrame qp]
abbrev ann:Option Value:=(some (.ref 6))
abbrev s0:List Stmt:=(b'.drop 0).take 38
set_option maxRecDepth 100000 in
theorem pre0 (w:World):(fun os=>PySem.W.Fast.tw15667345088766844465 PySem.W.Fast.tw14364793385576792824 p' w 11 ann 12 (⟨boot_heap w.params,⟨[]⟩,boot_drawn,boot_toks,os⟩:Shared) (topStub p')) = fun os=>some ((⟨ha w.params,⟨[]⟩,{},187,os⟩:Shared),(⟨PySem.W.Fast.tw11892475500146522536 PySem.W.Fast.tw14364793385576792824 cE,cE,⟨0,0,0,0⟩,B⟩:Thread)):=by kernel_rfl
set_option maxRecDepth 100000 in
theorem blk0 (w:World):(fun os=>PySem.W.Fast.tw14374325043358763698 PySem.W.Fast.tw14364793385576792824 p' w 11 ann (nat_lit 1) 1 (⟨ha w.params,⟨[]⟩,{},187,os⟩:Shared) (blockOf b' env' cE ⟨0,0,0,0⟩ B)) = fun os=>some (Flow.next,SharedT.abs ⟨t0 w.params,15,{},⟨[]⟩,{},187,os⟩,cE,⟨0,0,0,0⟩):=by kernel_rfl
set_option maxRecDepth 100000 in
theorem q0 (w:World):(fun os=>PySem.W.Fast.tw10110043849684766642 PySem.W.Fast.tw14364793385576792824 p' w 11 ann (nat_lit 1) 2204 ⟨t0 w.params,15,{},⟨[]⟩,{},187,os⟩ (piecesOf s0 env' cE ⟨0,0,0,0⟩ B)) = fun os=>some (Flow.next,⟨t1 w.params,247,{},⟨[]⟩,{},492,os⟩,cE,⟨130,0,144,85⟩):=by kernel_rfl
set_option maxRecDepth 100000 in
theorem fin0 (w:World):(fun os=>PySem.W.Fast.tw14082659384304107361 PySem.W.Fast.tw14364793385576792824 p' w 11 ann 2 (SharedT.abs ⟨t1 w.params,247,{},⟨[]⟩,{},492,os⟩) ⟨doneF Flow.next,cE,⟨130,0,144,85⟩,B⟩) = fun os=>some (⟨hf w.params,⟨[]⟩,{},492,os⟩:Shared):=by kernel_rfl
set_option maxRecDepth 100000 in
theorem bsplit:b' = s0 ++ ([]):=by kernel_rfl
theorem fin1 (w:World) (os:OsState):topRun treeTable p' w 11 ann 2 (SharedT.abs ⟨t1 w.params,247,{},⟨[]⟩,{},492,os⟩) (restOf [] env' cE ⟨130,0,144,85⟩ B) = some (⟨hf w.params,⟨[]⟩,{},492,os⟩:Shared):=by
  have h:=congrFun (fin0 w) os
  rw [← PySem.W.Fast.te14082659384304107361,← PySem.W.Fast.te14364793385576792824] at h
  exact h
theorem u0 (w:World) (os:OsState):topRun treeTable p' w 11 ann (2204 + 2) (SharedT.abs ⟨t0 w.params,15,{},⟨[]⟩,{},187,os⟩) (restOf (s0 ++ ([])) env' cE ⟨0,0,0,0⟩ B) = some (⟨hf w.params,⟨[]⟩,{},492,os⟩:Shared):=by
  have h:=congrFun (q0 w) os
  rw [← PySem.W.Fast.te10110043849684766642,← PySem.W.Fast.te14364793385576792824] at h
  exact piece_app (segRun_of h) (fin1 w os)
theorem ub (w:World) (os:OsState):topRun treeTable p' w 11 ann (1 + (2204 + 2)) (⟨ha w.params,⟨[]⟩,{},187,os⟩:Shared) ⟨denote treeTable (.body b' env'),cE,⟨0,0,0,0⟩,B⟩ = some (⟨hf w.params,⟨[]⟩,{},492,os⟩:Shared):=by
  have h:=congrFun (blk0 w) os
  rw [← PySem.W.Fast.te14374325043358763698,← PySem.W.Fast.te14364793385576792824] at h
  have e:restOf b' env' cE ⟨0,0,0,0⟩ B = restOf (s0 ++ ([])) env' cE ⟨0,0,0,0⟩ B:=congrArg (fun l=>restOf l env' cE ⟨0,0,0,0⟩ B) bsplit
  have k:=u0 w os
  rw [← e] at k
  exact piece_block h k
theorem run (w:World) (os:OsState):topRun treeTable p' w 11 ann (12 + (1 + (2204 + 2))) (⟨boot_heap w.params,⟨[]⟩,boot_drawn,boot_toks,os⟩:Shared) (topStub p') = some (⟨hf w.params,⟨[]⟩,{},492,os⟩:Shared):=by
  have h:=congrFun (pre0 w) os
  rw [← PySem.W.Fast.te15667345088766844465,← PySem.W.Fast.te11892475500146522536,← PySem.W.Fast.te14364793385576792824] at h
  exact go_top h (ub w os)
def viewOf (p:Program):Program:={ p with main:={ p.main with body:=[tpOf p 1,tpOf p 2,tpOf p 3,tpOf p 4,tpOf p 5,tpOf p 6,tpOf p 7,tpOf p 9,tpOf p 10,tpOf p 11,tpOf p 12,tpOf p 13,tpOf p 14,tpOf p 16,tpOf p 17,tpOf p 18,tpOf p 19,tpOf p 20,tpOf p 21,tpOf p 22,tpOf p 23,tpOf p 25,tpOf p 26,tpOf p 27,tpOf p 28,tpOf p 29,tpOf p 30,tpOf p 31,tpOf p 32,tpOf p 33,tpOf p 34,tpOf p 35,tpOf p 36,tpOf p 37] } }
abbrev K (P:Params):Frag:=(nat_lit 2,⟨.none,none,(.dict #[] 0),#[]⟩)
  :: (nat_lit 3,⟨(.type "dict"),none,(.dict (List.toArray ((⟨PyData.keyHash P (S "__name__"),(.str (S "__name__") 165),(.str (S "law_wheelrow_k07_written") 384)⟩) :: (⟨PyData.keyHash P (S "__doc__"),(.str (S "__doc__") 166),.none⟩) :: (⟨PyData.keyHash P (S "__package__"),(.str (S "__package__") 167),.none⟩) :: (⟨PyData.keyHash P (S "__loader__"),(.str (S "__loader__") 168),(.builtin "__main__.__loader__#opaque")⟩) :: (⟨PyData.keyHash P (S "__spec__"),(.str (S "__spec__") 169),.none⟩) :: (⟨PyData.keyHash P (S "__annotations__"),(.str (S "__annotations__") 170),(.ref 6)⟩) :: (⟨PyData.keyHash P (S "__builtins__"),(.str (S "__builtins__") 171),(.ref 4)⟩) :: (⟨PyData.keyHash P (S "__file__"),(.str (S "__file__") 173),(.str (S "/claim/cut.py") 172)⟩) :: (⟨PyData.keyHash P (S "__cached__"),(.str (S "__cached__") 174),.none⟩) :: (⟨PyData.keyHash P (S "RestError"),(.str (S "RestError") 206),(.ref 24)⟩) :: (⟨PyData.keyHash P (S "BadRests"),(.str (S "BadRests") 222),(.ref 37)⟩) :: (⟨PyData.keyHash P (S "BadNumbers"),(.str (S "BadNumbers") 238),(.ref 49)⟩) :: (⟨PyData.keyHash P (S "BadRound"),(.str (S "BadRound") 254),(.ref 61)⟩) :: (⟨PyData.keyHash P (S "BadRest"),(.str (S "BadRest") 270),(.ref 73)⟩) :: (⟨PyData.keyHash P (S "BadCount"),(.str (S "BadCount") 286),(.ref 85)⟩) :: (⟨PyData.keyHash P (S "BadText"),(.str (S "BadText") 302),(.ref 97)⟩) :: (⟨PyData.keyHash P (S "GREATEST_ROUND"),(.str (S "GREATEST_ROUND") 306),(.int 1000000 305)⟩) :: (⟨PyData.keyHash P (S "is_whole"),(.str (S "is_whole") 313),(.ref 106)⟩) :: (⟨PyData.keyHash P (S "is_round"),(.str (S "is_round") 320),(.ref 113)⟩) :: (⟨PyData.keyHash P (S "is_rest"),(.str (S "is_rest") 328),(.ref 120)⟩) :: (⟨PyData.keyHash P (S "is_rest_pair"),(.str (S "is_rest_pair") 335),(.ref 127)⟩) :: (⟨PyData.keyHash P (S "are_rests"),(.str (S "are_rests") 341),(.ref 132)⟩) :: (⟨PyData.keyHash P (S "NO_RESTS"),(.str (S "NO_RESTS") 345),(.str (S "-") 344)⟩) :: (⟨PyData.keyHash P (S "FIGURES"),(.str (S "FIGURES") 347),(.str (S "0123456789") 346)⟩) :: (⟨PyData.keyHash P (S "MOST_FIGURES"),(.str (S "MOST_FIGURES") 349),(.int 7 348)⟩) :: (⟨PyData.keyHash P (S "written"),(.str (S "written") 355),(.ref 137)⟩) :: (⟨PyData.keyHash P (S "read"),(.str (S "read") 361),(.ref 142)⟩) :: (⟨PyData.keyHash P (S "read_pair"),(.str (S "read_pair") 370),(.ref 149)⟩) :: (⟨PyData.keyHash P (S "read_number"),(.str (S "read_number") 377),(.ref 156)⟩) :: (⟨PyData.keyHash P (S "are_figures"),(.str (S "are_figures") 383),(.ref 161)⟩) :: (⟨PyData.keyHash P (S "_law_cell_at"),(.str (S "_law_cell_at") 393),(.ref 168)⟩) :: (⟨PyData.keyHash P (S "_law_draw"),(.str (S "_law_draw") 403),(.ref 175)⟩) :: (⟨PyData.keyHash P (S "_law_turns"),(.str (S "_law_turns") 414),(.ref 182)⟩) :: (⟨PyData.keyHash P (S "_law_rests"),(.str (S "_law_rests") 420),(.ref 187)⟩) :: (⟨PyData.keyHash P (S "_law_part"),(.str (S "_law_part") 428),(.ref 194)⟩) :: (⟨PyData.keyHash P (S "_law_whole"),(.str (S "_law_whole") 435),(.ref 201)⟩) :: (⟨PyData.keyHash P (S "_law_numbers"),(.str (S "_law_numbers") 441),(.ref 206)⟩) :: (⟨PyData.keyHash P (S "_law_number"),(.str (S "_law_number") 448),(.ref 213)⟩) :: (⟨PyData.keyHash P (S "_law_in"),(.str (S "_law_in") 460),(.ref 220)⟩) :: (⟨PyData.keyHash P (S "_law_refused"),(.str (S "_law_refused") 469),(.ref 227)⟩) :: (⟨PyData.keyHash P (S "_law_right"),(.str (S "_law_right") 478),(.ref 234)⟩) :: (⟨PyData.keyHash P (S "_law_few"),(.str (S "_law_few") 485),(.ref 241)⟩) :: (⟨PyData.keyHash P (S "law"),(.str (S "law") 491),(.ref 246)⟩) :: [])) 43),#[]⟩)
  :: (nat_lit 15,⟨(.type "tuple"),none,(.seq #[(.type "ValueError")] 0),#[]⟩)
  :: (nat_lit 22,⟨(.type "tuple"),none,(.seq #[] 0),#[]⟩)
  :: (nat_lit 23,⟨(.type "dict"),none,(.dict #[⟨PyData.keyHash P (S "__module__"),(.str (S "__module__") 196),(.str (S "wheelrow.errors") 187)⟩,⟨PyData.keyHash P (S "__firstlineno__"),(.str (S "__firstlineno__") 200),(.int 2 199)⟩,⟨PyData.keyHash P (S "__static_attributes__"),(.str (S "__static_attributes__") 201),(.ref 22)⟩,⟨PyData.keyHash P (S "__weakref__"),(.str (S "__weakref__") 203),(.ref 25)⟩,⟨PyData.keyHash P (S "__doc__"),(.str (S "__doc__") 204),.none⟩] 3),#[]⟩)
  :: (nat_lit 24,⟨(.type "type"),none,(.cls ⟨(S "RestError"),[(.type "ValueError")],[(.ref 24),(.type "ValueError"),(.type "Exception"),(.type "BaseException"),(.type "object")],23,(S "RestError"),true,[],[(.ref 37),(.ref 49),(.ref 61),(.ref 73),(.ref 85),(.ref 97)],false,none,false⟩),#[some (.ref 15),none,some (.str (S "RestError") 189),some (.str (S "RestError") 197),some (.builtin "ValueError.__new__"),some (.bool true)]⟩)
  :: (nat_lit 25,⟨(.type "getset_descriptor"),none,(.fields #[(.str (S "__weakref__") 202),(.ref 24),(.builtin "ExceptionGroup.__weakref__"),.none]),#[]⟩)
  :: (nat_lit 28,⟨(.type "tuple"),none,(.seq #[(.ref 24)] 0),#[]⟩)
  :: (nat_lit 35,⟨(.type "tuple"),none,(.seq #[] 0),#[]⟩)
  :: (nat_lit 36,⟨(.type "dict"),none,(.dict #[⟨PyData.keyHash P (S "__module__"),(.str (S "__module__") 214),(.str (S "wheelrow.errors") 187)⟩,⟨PyData.keyHash P (S "__firstlineno__"),(.str (S "__firstlineno__") 218),(.int 4 217)⟩,⟨PyData.keyHash P (S "__static_attributes__"),(.str (S "__static_attributes__") 219),(.ref 35)⟩,⟨PyData.keyHash P (S "__doc__"),(.str (S "__doc__") 220),.none⟩] 2),#[]⟩)
  :: (nat_lit 37,⟨(.type "type"),none,(.cls ⟨(S "BadRests"),[(.ref 24)],[(.ref 37),(.ref 24),(.type "ValueError"),(.type "Exception"),(.type "BaseException"),(.type "object")],36,(S "BadRests"),true,[],[],false,none,false⟩),#[some (.ref 28),none,some (.str (S "BadRests") 207),some (.str (S "BadRests") 215),some (.builtin "ValueError.__new__"),some (.bool true)]⟩)
  :: (nat_lit 40,⟨(.type "tuple"),none,(.seq #[(.ref 24)] 0),#[]⟩)
  :: (nat_lit 47,⟨(.type "tuple"),none,(.seq #[] 0),#[]⟩)
  :: (nat_lit 48,⟨(.type "dict"),none,(.dict #[⟨PyData.keyHash P (S "__module__"),(.str (S "__module__") 230),(.str (S "wheelrow.errors") 187)⟩,⟨PyData.keyHash P (S "__firstlineno__"),(.str (S "__firstlineno__") 234),(.int 6 233)⟩,⟨PyData.keyHash P (S "__static_attributes__"),(.str (S "__static_attributes__") 235),(.ref 47)⟩,⟨PyData.keyHash P (S "__doc__"),(.str (S "__doc__") 236),.none⟩] 2),#[]⟩)
  :: (nat_lit 49,⟨(.type "type"),none,(.cls ⟨(S "BadNumbers"),[(.ref 24)],[(.ref 49),(.ref 24),(.type "ValueError"),(.type "Exception"),(.type "BaseException"),(.type "object")],48,(S "BadNumbers"),true,[],[],false,none,false⟩),#[some (.ref 40),none,some (.str (S "BadNumbers") 223),some (.str (S "BadNumbers") 231),some (.builtin "ValueError.__new__"),some (.bool true)]⟩)
  :: (nat_lit 52,⟨(.type "tuple"),none,(.seq #[(.ref 24)] 0),#[]⟩)
  :: (nat_lit 59,⟨(.type "tuple"),none,(.seq #[] 0),#[]⟩)
  :: (nat_lit 60,⟨(.type "dict"),none,(.dict #[⟨PyData.keyHash P (S "__module__"),(.str (S "__module__") 246),(.str (S "wheelrow.errors") 187)⟩,⟨PyData.keyHash P (S "__firstlineno__"),(.str (S "__firstlineno__") 250),(.int 8 249)⟩,⟨PyData.keyHash P (S "__static_attributes__"),(.str (S "__static_attributes__") 251),(.ref 59)⟩,⟨PyData.keyHash P (S "__doc__"),(.str (S "__doc__") 252),.none⟩] 2),#[]⟩)
  :: (nat_lit 61,⟨(.type "type"),none,(.cls ⟨(S "BadRound"),[(.ref 24)],[(.ref 61),(.ref 24),(.type "ValueError"),(.type "Exception"),(.type "BaseException"),(.type "object")],60,(S "BadRound"),true,[],[],false,none,false⟩),#[some (.ref 52),none,some (.str (S "BadRound") 239),some (.str (S "BadRound") 247),some (.builtin "ValueError.__new__"),some (.bool true)]⟩)
  :: (nat_lit 64,⟨(.type "tuple"),none,(.seq #[(.ref 24)] 0),#[]⟩)
  :: (nat_lit 71,⟨(.type "tuple"),none,(.seq #[] 0),#[]⟩)
  :: (nat_lit 72,⟨(.type "dict"),none,(.dict #[⟨PyData.keyHash P (S "__module__"),(.str (S "__module__") 262),(.str (S "wheelrow.errors") 187)⟩,⟨PyData.keyHash P (S "__firstlineno__"),(.str (S "__firstlineno__") 266),(.int 10 265)⟩,⟨PyData.keyHash P (S "__static_attributes__"),(.str (S "__static_attributes__") 267),(.ref 71)⟩,⟨PyData.keyHash P (S "__doc__"),(.str (S "__doc__") 268),.none⟩] 2),#[]⟩)
  :: (nat_lit 73,⟨(.type "type"),none,(.cls ⟨(S "BadRest"),[(.ref 24)],[(.ref 73),(.ref 24),(.type "ValueError"),(.type "Exception"),(.type "BaseException"),(.type "object")],72,(S "BadRest"),true,[],[],false,none,false⟩),#[some (.ref 64),none,some (.str (S "BadRest") 255),some (.str (S "BadRest") 263),some (.builtin "ValueError.__new__"),some (.bool true)]⟩)
  :: (nat_lit 76,⟨(.type "tuple"),none,(.seq #[(.ref 24)] 0),#[]⟩)
  :: (nat_lit 83,⟨(.type "tuple"),none,(.seq #[] 0),#[]⟩)
  :: (nat_lit 84,⟨(.type "dict"),none,(.dict #[⟨PyData.keyHash P (S "__module__"),(.str (S "__module__") 278),(.str (S "wheelrow.errors") 187)⟩,⟨PyData.keyHash P (S "__firstlineno__"),(.str (S "__firstlineno__") 282),(.int 12 281)⟩,⟨PyData.keyHash P (S "__static_attributes__"),(.str (S "__static_attributes__") 283),(.ref 83)⟩,⟨PyData.keyHash P (S "__doc__"),(.str (S "__doc__") 284),.none⟩] 2),#[]⟩)
  :: (nat_lit 85,⟨(.type "type"),none,(.cls ⟨(S "BadCount"),[(.ref 24)],[(.ref 85),(.ref 24),(.type "ValueError"),(.type "Exception"),(.type "BaseException"),(.type "object")],84,(S "BadCount"),true,[],[],false,none,false⟩),#[some (.ref 76),none,some (.str (S "BadCount") 271),some (.str (S "BadCount") 279),some (.builtin "ValueError.__new__"),some (.bool true)]⟩)
  :: (nat_lit 88,⟨(.type "tuple"),none,(.seq #[(.ref 24)] 0),#[]⟩)
  :: (nat_lit 95,⟨(.type "tuple"),none,(.seq #[] 0),#[]⟩)
  :: (nat_lit 96,⟨(.type "dict"),none,(.dict #[⟨PyData.keyHash P (S "__module__"),(.str (S "__module__") 294),(.str (S "wheelrow.errors") 187)⟩,⟨PyData.keyHash P (S "__firstlineno__"),(.str (S "__firstlineno__") 298),(.int 14 297)⟩,⟨PyData.keyHash P (S "__static_attributes__"),(.str (S "__static_attributes__") 299),(.ref 95)⟩,⟨PyData.keyHash P (S "__doc__"),(.str (S "__doc__") 300),.none⟩] 2),#[]⟩)
  :: (nat_lit 97,⟨(.type "type"),none,(.cls ⟨(S "BadText"),[(.ref 24)],[(.ref 97),(.ref 24),(.type "ValueError"),(.type "Exception"),(.type "BaseException"),(.type "object")],96,(S "BadText"),true,[],[],false,none,false⟩),#[some (.ref 88),none,some (.str (S "BadText") 287),some (.str (S "BadText") 295),some (.builtin "ValueError.__new__"),some (.bool true)]⟩)
  :: (nat_lit 100,⟨(.type "tuple"),none,(.seq #[] 0),#[]⟩)
  :: (nat_lit 102,⟨(.type "tuple"),none,(.seq #[(.str (S "value") 310)] 0),#[]⟩)
  :: (nat_lit 103,⟨(.type "tuple"),none,(.seq #[] 0),#[]⟩)
  :: (nat_lit 105,⟨(.type "code"),none,(.fields #[(.str (S "is_whole") 307),(.str (S "is_whole") 308),(.str (S "/claim/cut.py") 309),(.int 18 0),(.int 1 0),(.int 0 0),(.int 0 0),(.int 3 0),(.ref 100),(.bool true),(.int 181 0),(.ref 101),.none,(.ref 102),(.ref 103),(.ref 104),(.int 311 0),(.int 18 0),(.str (S "/claim/cut.py") 312)]),#[]⟩)
  :: (nat_lit 106,⟨(.type "function"),none,(.func ⟨(S "is_whole"),(S "is_whole"),(L2.defArgs (W07.top 10)),.stmts (L2.defBody (W07.top 10)),(L2.defScope (W07.top 10)),3,[],.none,.none,.none,(.str (S "wheelrow.numbers") 303),none,(.ref 105),.none,0⟩),#[]⟩)
  :: (nat_lit 107,⟨(.type "tuple"),none,(.seq #[] 0),#[]⟩)
  :: (nat_lit 109,⟨(.type "tuple"),none,(.seq #[(.str (S "value") 317)] 0),#[]⟩)
  :: (nat_lit 110,⟨(.type "tuple"),none,(.seq #[] 0),#[]⟩)
  :: (nat_lit 112,⟨(.type "code"),none,(.fields #[(.str (S "is_round") 314),(.str (S "is_round") 315),(.str (S "/claim/cut.py") 316),(.int 20 0),(.int 1 0),(.int 0 0),(.int 0 0),(.int 3 0),(.ref 107),(.bool true),(.int 181 0),(.ref 108),.none,(.ref 109),(.ref 110),(.ref 111),(.int 318 0),(.int 20 0),(.str (S "/claim/cut.py") 319)]),#[]⟩)
  :: (nat_lit 113,⟨(.type "function"),none,(.func ⟨(S "is_round"),(S "is_round"),(L2.defArgs (W07.top 11)),.stmts (L2.defBody (W07.top 11)),(L2.defScope (W07.top 11)),3,[],.none,.none,.none,(.str (S "wheelrow.numbers") 303),none,(.ref 112),.none,0⟩),#[]⟩)
  :: (nat_lit 114,⟨(.type "tuple"),none,(.seq #[] 0),#[]⟩)
  :: (nat_lit 116,⟨(.type "tuple"),none,(.seq #[(.str (S "value") 324),(.str (S "turn") 325)] 0),#[]⟩)
  :: (nat_lit 117,⟨(.type "tuple"),none,(.seq #[] 0),#[]⟩)
  :: (nat_lit 119,⟨(.type "code"),none,(.fields #[(.str (S "is_rest") 321),(.str (S "is_rest") 322),(.str (S "/claim/cut.py") 323),(.int 22 0),(.int 2 0),(.int 0 0),(.int 0 0),(.int 3 0),(.ref 114),(.bool true),(.int 181 0),(.ref 115),.none,(.ref 116),(.ref 117),(.ref 118),(.int 326 0),(.int 22 0),(.str (S "/claim/cut.py") 327)]),#[]⟩)
  :: (nat_lit 120,⟨(.type "function"),none,(.func ⟨(S "is_rest"),(S "is_rest"),(L2.defArgs (W07.top 12)),.stmts (L2.defBody (W07.top 12)),(L2.defScope (W07.top 12)),3,[],.none,.none,.none,(.str (S "wheelrow.numbers") 303),none,(.ref 119),.none,0⟩),#[]⟩)
  :: (nat_lit 121,⟨(.type "tuple"),none,(.seq #[] 0),#[]⟩)
  :: (nat_lit 123,⟨(.type "tuple"),none,(.seq #[(.str (S "value") 332)] 0),#[]⟩)
  :: (nat_lit 124,⟨(.type "tuple"),none,(.seq #[] 0),#[]⟩)
  :: (nat_lit 126,⟨(.type "code"),none,(.fields #[(.str (S "is_rest_pair") 329),(.str (S "is_rest_pair") 330),(.str (S "/claim/cut.py") 331),(.int 24 0),(.int 1 0),(.int 0 0),(.int 0 0),(.int 3 0),(.ref 121),(.bool true),(.int 181 0),(.ref 122),.none,(.ref 123),(.ref 124),(.ref 125),(.int 333 0),(.int 24 0),(.str (S "/claim/cut.py") 334)]),#[]⟩)
  :: (nat_lit 127,⟨(.type "function"),none,(.func ⟨(S "is_rest_pair"),(S "is_rest_pair"),(L2.defArgs (W07.top 13)),.stmts (L2.defBody (W07.top 13)),(L2.defScope (W07.top 13)),3,[],.none,.none,.none,(.str (S "wheelrow.numbers") 303),none,(.ref 126),.none,0⟩),#[]⟩)
  :: (nat_lit 128,⟨(.type "tuple"),none,(.seq #[] 0),#[]⟩)
  :: (nat_lit 131,⟨(.type "code"),none,(.fields #[(.str (S "are_rests") 336),(.str (S "are_rests") 337),(.str (S "/claim/cut.py") 338),(.int 26 0),(.int 1 0),(.int 0 0),(.int 0 0),(.int 3 0),(.ref 128),(.bool true),(.int 181 0),(.ref 129),.none,.none,.none,(.ref 130),(.int 339 0),(.int 26 0),(.str (S "/claim/cut.py") 340)]),#[]⟩)
  :: (nat_lit 132,⟨(.type "function"),none,(.func ⟨(S "are_rests"),(S "are_rests"),(L2.defArgs (W07.top 14)),.stmts (L2.defBody (W07.top 14)),(L2.defScope (W07.top 14)),3,[],.none,.none,.none,(.str (S "wheelrow.numbers") 303),none,(.ref 131),.none,0⟩),#[]⟩)
  :: (nat_lit 133,⟨(.type "tuple"),none,(.seq #[] 0),#[]⟩)
  :: (nat_lit 136,⟨(.type "code"),none,(.fields #[(.str (S "written") 350),(.str (S "written") 351),(.str (S "/claim/cut.py") 352),(.int 32 0),(.int 1 0),(.int 0 0),(.int 0 0),(.int 3 0),(.ref 133),(.bool true),(.int 181 0),(.ref 134),.none,.none,.none,(.ref 135),(.int 353 0),(.int 32 0),(.str (S "/claim/cut.py") 354)]),#[]⟩)
  :: (nat_lit 137,⟨(.type "function"),none,(.func ⟨(S "written"),(S "written"),(L2.defArgs (W07.top 19)),.stmts (L2.defBody (W07.top 19)),(L2.defScope (W07.top 19)),3,[],.none,.none,.none,(.str (S "wheelrow.texts") 342),none,(.ref 136),.none,0⟩),#[]⟩)
  :: (nat_lit 138,⟨(.type "tuple"),none,(.seq #[] 0),#[]⟩)
  :: (nat_lit 141,⟨(.type "code"),none,(.fields #[(.str (S "read") 356),(.str (S "read") 357),(.str (S "/claim/cut.py") 358),(.int 38 0),(.int 1 0),(.int 0 0),(.int 0 0),(.int 3 0),(.ref 138),(.bool true),(.int 181 0),(.ref 139),.none,.none,.none,(.ref 140),(.int 359 0),(.int 38 0),(.str (S "/claim/cut.py") 360)]),#[]⟩)
  :: (nat_lit 142,⟨(.type "function"),none,(.func ⟨(S "read"),(S "read"),(L2.defArgs (W07.top 20)),.stmts (L2.defBody (W07.top 20)),(L2.defScope (W07.top 20)),3,[],.none,.none,.none,(.str (S "wheelrow.texts") 342),none,(.ref 141),.none,0⟩),#[]⟩)
  :: (nat_lit 143,⟨(.type "tuple"),none,(.seq #[] 0),#[]⟩)
  :: (nat_lit 145,⟨(.type "tuple"),none,(.seq #[(.str (S "word") 365),(.str (S "halves") 366),(.str (S "pair") 367)] 0),#[]⟩)
  :: (nat_lit 146,⟨(.type "tuple"),none,(.seq #[] 0),#[]⟩)
  :: (nat_lit 148,⟨(.type "code"),none,(.fields #[(.str (S "read_pair") 362),(.str (S "read_pair") 363),(.str (S "/claim/cut.py") 364),(.int 44 0),(.int 1 0),(.int 0 0),(.int 0 0),(.int 3 0),(.ref 143),(.bool true),(.int 181 0),(.ref 144),.none,(.ref 145),(.ref 146),(.ref 147),(.int 368 0),(.int 44 0),(.str (S "/claim/cut.py") 369)]),#[]⟩)
  :: (nat_lit 149,⟨(.type "function"),none,(.func ⟨(S "read_pair"),(S "read_pair"),(L2.defArgs (W07.top 21)),.stmts (L2.defBody (W07.top 21)),(L2.defScope (W07.top 21)),3,[],.none,.none,.none,(.str (S "wheelrow.texts") 342),none,(.ref 148),.none,0⟩),#[]⟩)
  :: (nat_lit 150,⟨(.type "tuple"),none,(.seq #[] 0),#[]⟩)
  :: (nat_lit 152,⟨(.type "tuple"),none,(.seq #[(.str (S "word") 374)] 0),#[]⟩)
  :: (nat_lit 153,⟨(.type "tuple"),none,(.seq #[] 0),#[]⟩)
  :: (nat_lit 155,⟨(.type "code"),none,(.fields #[(.str (S "read_number") 371),(.str (S "read_number") 372),(.str (S "/claim/cut.py") 373),(.int 50 0),(.int 1 0),(.int 0 0),(.int 0 0),(.int 3 0),(.ref 150),(.bool true),(.int 181 0),(.ref 151),.none,(.ref 152),(.ref 153),(.ref 154),(.int 375 0),(.int 50 0),(.str (S "/claim/cut.py") 376)]),#[]⟩)
  :: (nat_lit 156,⟨(.type "function"),none,(.func ⟨(S "read_number"),(S "read_number"),(L2.defArgs (W07.top 22)),.stmts (L2.defBody (W07.top 22)),(L2.defScope (W07.top 22)),3,[],.none,.none,.none,(.str (S "wheelrow.texts") 342),none,(.ref 155),.none,0⟩),#[]⟩)
  :: (nat_lit 157,⟨(.type "tuple"),none,(.seq #[] 0),#[]⟩)
  :: (nat_lit 160,⟨(.type "code"),none,(.fields #[(.str (S "are_figures") 378),(.str (S "are_figures") 379),(.str (S "/claim/cut.py") 380),(.int 54 0),(.int 1 0),(.int 0 0),(.int 0 0),(.int 3 0),(.ref 157),(.bool true),(.int 181 0),(.ref 158),.none,.none,.none,(.ref 159),(.int 381 0),(.int 54 0),(.str (S "/claim/cut.py") 382)]),#[]⟩)
  :: (nat_lit 161,⟨(.type "function"),none,(.func ⟨(S "are_figures"),(S "are_figures"),(L2.defArgs (W07.top 23)),.stmts (L2.defBody (W07.top 23)),(L2.defScope (W07.top 23)),3,[],.none,.none,.none,(.str (S "wheelrow.texts") 342),none,(.ref 160),.none,0⟩),#[]⟩)
  :: (nat_lit 162,⟨(.type "tuple"),none,(.seq #[] 0),#[]⟩)
  :: (nat_lit 164,⟨(.type "tuple"),none,(.seq #[(.str (S "_law_script") 389),(.str (S "_law_k") 390)] 0),#[]⟩)
  :: (nat_lit 165,⟨(.type "tuple"),none,(.seq #[] 0),#[]⟩)
  :: (nat_lit 167,⟨(.type "code"),none,(.fields #[(.str (S "_law_cell_at") 386),(.str (S "_law_cell_at") 387),(.str (S "/claim/cut.py") 388),(.int 59 0),(.int 2 0),(.int 0 0),(.int 0 0),(.int 3 0),(.ref 162),(.bool true),(.int 181 0),(.ref 163),.none,(.ref 164),(.ref 165),(.ref 166),(.int 391 0),(.int 59 0),(.str (S "/claim/cut.py") 392)]),#[]⟩)
  :: (nat_lit 168,⟨(.type "function"),none,(.func ⟨(S "_law_cell_at"),(S "_law_cell_at"),(L2.defArgs (W07.top 25)),.stmts (L2.defBody (W07.top 25)),(L2.defScope (W07.top 25)),3,[],.none,.none,.none,(.str (S "law_wheelrow_k07_written") 384),none,(.ref 167),.none,0⟩),#[]⟩)
  :: (nat_lit 169,⟨(.type "tuple"),none,(.seq #[] 0),#[]⟩)
  :: (nat_lit 171,⟨(.type "tuple"),none,(.seq #[(.str (S "_law_cell") 397),(.str (S "_law_k") 398),(.str (S "_law_many") 399),(.str (S "_law_primes") 400)] 0),#[]⟩)
  :: (nat_lit 172,⟨(.type "tuple"),none,(.seq #[] 0),#[]⟩)
  :: (nat_lit 174,⟨(.type "code"),none,(.fields #[(.str (S "_law_draw") 394),(.str (S "_law_draw") 395),(.str (S "/claim/cut.py") 396),(.int 63 0),(.int 3 0),(.int 0 0),(.int 0 0),(.int 3 0),(.ref 169),(.bool true),(.int 181 0),(.ref 170),.none,(.ref 171),(.ref 172),(.ref 173),(.int 401 0),(.int 63 0),(.str (S "/claim/cut.py") 402)]),#[]⟩)
  :: (nat_lit 175,⟨(.type "function"),none,(.func ⟨(S "_law_draw"),(S "_law_draw"),(L2.defArgs (W07.top 26)),.stmts (L2.defBody (W07.top 26)),(L2.defScope (W07.top 26)),3,[],.none,.none,.none,(.str (S "law_wheelrow_k07_written") 384),none,(.ref 174),.none,0⟩),#[]⟩)
  :: (nat_lit 176,⟨(.type "tuple"),none,(.seq #[] 0),#[]⟩)
  :: (nat_lit 178,⟨(.type "tuple"),none,(.seq #[(.str (S "_law_script") 407),(.str (S "_law_kind") 408),(.str (S "_law_found") 409),(.str (S "_law_k") 410),(.str (S "_law_turn") 411)] 0),#[]⟩)
  :: (nat_lit 179,⟨(.type "tuple"),none,(.seq #[] 0),#[]⟩)
  :: (nat_lit 181,⟨(.type "code"),none,(.fields #[(.str (S "_law_turns") 404),(.str (S "_law_turns") 405),(.str (S "/claim/cut.py") 406),(.int 66 0),(.int 1 0),(.int 0 0),(.int 0 0),(.int 3 0),(.ref 176),(.bool true),(.int 181 0),(.ref 177),.none,(.ref 178),(.ref 179),(.ref 180),(.int 412 0),(.int 66 0),(.str (S "/claim/cut.py") 413)]),#[]⟩)
  :: (nat_lit 182,⟨(.type "function"),none,(.func ⟨(S "_law_turns"),(S "_law_turns"),(L2.defArgs (W07.top 27)),.stmts (L2.defBody (W07.top 27)),(L2.defScope (W07.top 27)),3,[],.none,.none,.none,(.str (S "law_wheelrow_k07_written") 384),none,(.ref 181),.none,0⟩),#[]⟩)
  :: (nat_lit 183,⟨(.type "tuple"),none,(.seq #[] 0),#[]⟩)
  :: (nat_lit 186,⟨(.type "code"),none,(.fields #[(.str (S "_law_rests") 415),(.str (S "_law_rests") 416),(.str (S "/claim/cut.py") 417),(.int 75 0),(.int 1 0),(.int 0 0),(.int 0 0),(.int 3 0),(.ref 183),(.bool true),(.int 181 0),(.ref 184),.none,.none,.none,(.ref 185),(.int 418 0),(.int 75 0),(.str (S "/claim/cut.py") 419)]),#[]⟩)
  :: (nat_lit 187,⟨(.type "function"),none,(.func ⟨(S "_law_rests"),(S "_law_rests"),(L2.defArgs (W07.top 28)),.stmts (L2.defBody (W07.top 28)),(L2.defScope (W07.top 28)),3,[],.none,.none,.none,(.str (S "law_wheelrow_k07_written") 384),none,(.ref 186),.none,0⟩),#[]⟩)
  :: (nat_lit 207,⟨(.type "tuple"),none,(.seq #[] 0),#[]⟩)
  :: (nat_lit 209,⟨(.type "tuple"),none,(.seq #[(.str (S "_law_text") 445)] 0),#[]⟩)
  :: (nat_lit 210,⟨(.type "tuple"),none,(.seq #[] 0),#[]⟩)
  :: (nat_lit 212,⟨(.type "code"),none,(.fields #[(.str (S "_law_number") 442),(.str (S "_law_number") 443),(.str (S "/claim/cut.py") 444),(.int 91 0),(.int 1 0),(.int 0 0),(.int 0 0),(.int 3 0),(.ref 207),(.bool true),(.int 181 0),(.ref 208),.none,(.ref 209),(.ref 210),(.ref 211),(.int 446 0),(.int 91 0),(.str (S "/claim/cut.py") 447)]),#[]⟩)
  :: (nat_lit 213,⟨(.type "function"),none,(.func ⟨(S "_law_number"),(S "_law_number"),(L2.defArgs (W07.top 32)),.stmts (L2.defBody (W07.top 32)),(L2.defScope (W07.top 32)),3,[],.none,.none,.none,(.str (S "law_wheelrow_k07_written") 384),none,(.ref 212),.none,0⟩),#[]⟩)
  :: (nat_lit 214,⟨(.type "tuple"),none,(.seq #[] 0),#[]⟩)
  :: (nat_lit 216,⟨(.type "tuple"),none,(.seq #[(.str (S "_law_text") 452),(.str (S "_law_found") 453),(.str (S "_law_word") 454),(.str (S "_law_rest") 455),(.str (S "_law_sign") 456),(.str (S "_law_turn") 457)] 0),#[]⟩)
  :: (nat_lit 217,⟨(.type "tuple"),none,(.seq #[] 0),#[]⟩)
  :: (nat_lit 219,⟨(.type "code"),none,(.fields #[(.str (S "_law_in") 449),(.str (S "_law_in") 450),(.str (S "/claim/cut.py") 451),(.int 95 0),(.int 1 0),(.int 0 0),(.int 0 0),(.int 3 0),(.ref 214),(.bool true),(.int 181 0),(.ref 215),.none,(.ref 216),(.ref 217),(.ref 218),(.int 458 0),(.int 95 0),(.str (S "/claim/cut.py") 459)]),#[]⟩)
  :: (nat_lit 220,⟨(.type "function"),none,(.func ⟨(S "_law_in"),(S "_law_in"),(L2.defArgs (W07.top 33)),.stmts (L2.defBody (W07.top 33)),(L2.defScope (W07.top 33)),3,[],.none,.none,.none,(.str (S "law_wheelrow_k07_written") 384),none,(.ref 219),.none,0⟩),#[]⟩)
  :: (nat_lit 221,⟨(.type "tuple"),none,(.seq #[] 0),#[]⟩)
  :: (nat_lit 223,⟨(.type "tuple"),none,(.seq #[(.str (S "_law_text") 464),(.str (S "error") 465),(.str (S "_law_others") 466)] 0),#[]⟩)
  :: (nat_lit 224,⟨(.type "tuple"),none,(.seq #[] 0),#[]⟩)
  :: (nat_lit 226,⟨(.type "code"),none,(.fields #[(.str (S "_law_refused") 461),(.str (S "_law_refused") 462),(.str (S "/claim/cut.py") 463),(.int 106 0),(.int 1 0),(.int 0 0),(.int 0 0),(.int 3 0),(.ref 221),(.bool true),(.int 181 0),(.ref 222),.none,(.ref 223),(.ref 224),(.ref 225),(.int 467 0),(.int 106 0),(.str (S "/claim/cut.py") 468)]),#[]⟩)
  :: (nat_lit 227,⟨(.type "function"),none,(.func ⟨(S "_law_refused"),(S "_law_refused"),(L2.defArgs (W07.top 34)),.stmts (L2.defBody (W07.top 34)),(L2.defScope (W07.top 34)),3,[],.none,.none,.none,(.str (S "law_wheelrow_k07_written") 384),none,(.ref 226),.none,0⟩),#[]⟩)
  :: (nat_lit 228,⟨(.type "tuple"),none,(.seq #[] 0),#[]⟩)
  :: (nat_lit 230,⟨(.type "tuple"),none,(.seq #[(.str (S "_law_text") 473),(.str (S "_law_due") 474),(.str (S "_law_found") 475)] 0),#[]⟩)
  :: (nat_lit 231,⟨(.type "tuple"),none,(.seq #[] 0),#[]⟩)
  :: (nat_lit 233,⟨(.type "code"),none,(.fields #[(.str (S "_law_right") 470),(.str (S "_law_right") 471),(.str (S "/claim/cut.py") 472),(.int 114 0),(.int 1 0),(.int 0 0),(.int 0 0),(.int 3 0),(.ref 228),(.bool true),(.int 181 0),(.ref 229),.none,(.ref 230),(.ref 231),(.ref 232),(.int 476 0),(.int 114 0),(.str (S "/claim/cut.py") 477)]),#[]⟩)
  :: (nat_lit 234,⟨(.type "function"),none,(.func ⟨(S "_law_right"),(S "_law_right"),(L2.defArgs (W07.top 35)),.stmts (L2.defBody (W07.top 35)),(L2.defScope (W07.top 35)),3,[],.none,.none,.none,(.str (S "law_wheelrow_k07_written") 384),none,(.ref 233),.none,0⟩),#[]⟩)
  :: (nat_lit 235,⟨(.type "tuple"),none,(.seq #[] 0),#[]⟩)
  :: (nat_lit 237,⟨(.type "tuple"),none,(.seq #[(.str (S "_law_some") 482)] 0),#[]⟩)
  :: (nat_lit 238,⟨(.type "tuple"),none,(.seq #[] 0),#[]⟩)
  :: (nat_lit 240,⟨(.type "code"),none,(.fields #[(.str (S "_law_few") 479),(.str (S "_law_few") 480),(.str (S "/claim/cut.py") 481),(.int 123 0),(.int 0 0),(.int 0 0),(.int 0 0),(.int 3 0),(.ref 235),(.bool true),(.int 181 0),(.ref 236),.none,(.ref 237),(.ref 238),(.ref 239),(.int 483 0),(.int 123 0),(.str (S "/claim/cut.py") 484)]),#[]⟩)
  :: (nat_lit 241,⟨(.type "function"),none,(.func ⟨(S "_law_few"),(S "_law_few"),(L2.defArgs (W07.top 36)),.stmts (L2.defBody (W07.top 36)),(L2.defScope (W07.top 36)),3,[],.none,.none,.none,(.str (S "law_wheelrow_k07_written") 384),none,(.ref 240),.none,0⟩),#[]⟩)
  :: (nat_lit 242,⟨(.type "tuple"),none,(.seq #[] 0),#[]⟩)
  :: (nat_lit 245,⟨(.type "code"),none,(.fields #[(.str (S "law") 486),(.str (S "law") 487),(.str (S "/claim/cut.py") 488),(.int 130 0),(.int 1 0),(.int 0 0),(.int 0 0),(.int 3 0),(.ref 242),(.bool true),(.int 181 0),(.ref 243),.none,.none,.none,(.ref 244),(.int 489 0),(.int 130 0),(.str (S "/claim/cut.py") 490)]),#[]⟩)
  :: (nat_lit 246,⟨(.type "function"),none,(.func ⟨(S "law"),(S "law"),(L2.defArgs (W07.top 37)),.stmts (L2.defBody (W07.top 37)),(L2.defScope (W07.top 37)),3,[],.none,.none,.none,(.str (S "law_wheelrow_k07_written") 384),none,(.ref 245),.none,0⟩),#[]⟩) :: []
abbrev as:List Addr:=(nat_lit 2) :: (nat_lit 3) :: (nat_lit 15) :: (nat_lit 22) :: (nat_lit 23) :: (nat_lit 24) :: (nat_lit 25) :: (nat_lit 28) :: (nat_lit 35) :: (nat_lit 36) :: (nat_lit 37) :: (nat_lit 40) :: (nat_lit 47) :: (nat_lit 48) :: (nat_lit 49) :: (nat_lit 52) :: (nat_lit 59) :: (nat_lit 60) :: (nat_lit 61) :: (nat_lit 64) :: (nat_lit 71) :: (nat_lit 72) :: (nat_lit 73) :: (nat_lit 76) :: (nat_lit 83) :: (nat_lit 84) :: (nat_lit 85) :: (nat_lit 88) :: (nat_lit 95) :: (nat_lit 96) :: (nat_lit 97) :: (nat_lit 100) :: (nat_lit 102) :: (nat_lit 103) :: (nat_lit 105) :: (nat_lit 106) :: (nat_lit 107) :: (nat_lit 109) :: (nat_lit 110) :: (nat_lit 112) :: (nat_lit 113) :: (nat_lit 114) :: (nat_lit 116) :: (nat_lit 117) :: (nat_lit 119) :: (nat_lit 120) :: (nat_lit 121) :: (nat_lit 123) :: (nat_lit 124) :: (nat_lit 126) :: (nat_lit 127) :: (nat_lit 128) :: (nat_lit 131) :: (nat_lit 132) :: (nat_lit 133) :: (nat_lit 136) :: (nat_lit 137) :: (nat_lit 138) :: (nat_lit 141) :: (nat_lit 142) :: (nat_lit 143) :: (nat_lit 145) :: (nat_lit 146) :: (nat_lit 148) :: (nat_lit 149) :: (nat_lit 150) :: (nat_lit 152) :: (nat_lit 153) :: (nat_lit 155) :: (nat_lit 156) :: (nat_lit 157) :: (nat_lit 160) :: (nat_lit 161) :: (nat_lit 162) :: (nat_lit 164) :: (nat_lit 165) :: (nat_lit 167) :: (nat_lit 168) :: (nat_lit 169) :: (nat_lit 171) :: (nat_lit 172) :: (nat_lit 174) :: (nat_lit 175) :: (nat_lit 176) :: (nat_lit 178) :: (nat_lit 179) :: (nat_lit 181) :: (nat_lit 182) :: (nat_lit 183) :: (nat_lit 186) :: (nat_lit 187) :: (nat_lit 207) :: (nat_lit 209) :: (nat_lit 210) :: (nat_lit 212) :: (nat_lit 213) :: (nat_lit 214) :: (nat_lit 216) :: (nat_lit 217) :: (nat_lit 219) :: (nat_lit 220) :: (nat_lit 221) :: (nat_lit 223) :: (nat_lit 224) :: (nat_lit 226) :: (nat_lit 227) :: (nat_lit 228) :: (nat_lit 230) :: (nat_lit 231) :: (nat_lit 233) :: (nat_lit 234) :: (nat_lit 235) :: (nat_lit 237) :: (nat_lit 238) :: (nat_lit 240) :: (nat_lit 241) :: (nat_lit 242) :: (nat_lit 245) :: (nat_lit 246) :: []
theorem as_eq (P:Params):as = (K P).map (·.1):=by kernel_rfl
abbrev H:Hook:=kHook K as as_eq
abbrev rr:RowW:=PySem.Challenge.rw_wheelrow_k07_written.row.toRowW
abbrev Q:Program:=viewOf pq
abbrev XtOf (q:Program) (s:Shared):Bool:=xlAt q [] s && recOk (RowW.records rr) s
set_option maxRecDepth 100000 in
theorem look1 (w:World):(fun os=>staticsOk (PySem.W.Fast.tw5923862056798008813 p'.main.body) (boot_heap w.params) (hf w.params) && namesBound p' (hf w.params) && gensDone ⟨hf w.params,⟨[]⟩,{},492,os⟩ && laidKept (boot_heap w.params) (hf w.params)) = fun _=>true:=by kernel_rfl
set_option maxRecDepth 100000 in
theorem look2 (w:World):(fun os=>PySem.W.Fast.tw4187177175401517315 (viewOf p') [] (PySem.W.Fast.tw5923862056798008813 p'.main.body) (XtOf (viewOf p')) true ⟨hf w.params,⟨[]⟩,{},492,os⟩) = fun _=>openGood (viewOf p') []:=by kernel_rfl
set_option maxRecDepth 100000 in
theorem look3 (w:World):as.map (hf w.params).get? = (K w.params).map fun p=>some p.2:=by kernel_rfl
set_option maxRecDepth 100000 in
theorem size (w:World):((boot_heap w.params).isNs mainGlobals && (⟨[]⟩:Array GenState).size == 0,(boot_heap w.params).objs.size,(boot_heap w.params).nsMap mainGlobals "__annotations__") = (true,11,ann):=by kernel_rfl
set_option maxRecDepth 100000 in
theorem looks (w:World):(fun os=>((staticsOk (importedModules p'.main.body) (boot_heap w.params) (hf w.params) && namesBound p' (hf w.params) && gensDone ⟨hf w.params,⟨[]⟩,{},492,os⟩ && laidKept (boot_heap w.params) (hf w.params)),openSeen (viewOf p') [] (importedModules p'.main.body) (XtOf (viewOf p')) true ⟨hf w.params,⟨[]⟩,{},492,os⟩,H.obs ⟨hf w.params,⟨[]⟩,{},492,os⟩)) = fun _=>(true,openGood (viewOf p') [],H.val w):=by
  have a:=look1 w
  have b:=look2 w
  rw [← PySem.W.Fast.te5923862056798008813] at a
  rw [← PySem.W.Fast.te4187177175401517315,← PySem.W.Fast.te5923862056798008813] at b
  funext os
  exact Prod.ext (congrFun a os) (Prod.ext (congrFun b os) (look3 w))
set_option maxRecDepth 100000 in
theorem left':LeftO p' (viewOf p') [] (XtOf (viewOf p')) H.obs H.val 4532 true:=LeftO.of_pieces (boot_open (by kernel_rfl) (by kernel_rfl) (fun s=>by kernel_rfl)) size run (by kernel_rfl) looks
theorem left:LeftO pq Q [] (XtOf Q) H.obs H.val 4532 true:=by
  have h:=left'
  rw [← pq_eq] at h
  exact h
end
end H07
set_option Elab.async false
set_option linter.all false
set_option maxRecDepth 100000
namespace W07
open PySem L2
set_option maxHeartbeats 4000000 in
theorem all_mk {l:PySem.W.OpenLaw} {w:World} {K:PySem.W.Frag} {h:Heap} {mg:Str → Option Value} {fa:Addr}
 {xfE xeK:Option Addr} {xfU:Array (Option Value)} {xfB xfn xe6 xfL xeW xe0:Value}
 {xgR:Addr}
 {xfD xeJ:Option Addr} {xfT:Array (Option Value)} {xfA xfm xe5 xfK xeV xeZ:Value}
 {xgQ:Addr}
 {xhn xgn:Option Addr} {xhE:Array (Option Value)} {xhk xg4 xgK xht xgB xgE:Value}
 {xif:Addr}
 {xaS xaw:Option Addr} {xa4:Array (Option Value)} {xaP xaM xaI xaX xaC xaF:Value}
 {xbC:Addr}
 {xec xdu:Option Addr} {xes:Array (Option Value)} {xd9 xdW xdO xej xdE xdI:Value}
 {xfb:Addr}
 {xho xgo:Option Addr} {xhF:Array (Option Value)} {xhl xg5 xgL xhu xgC xgF:Value}
 {xig:Addr}
 {xiK xiD:Option Addr} {xiO:Array (Option Value)} {xiJ xiI xiH xiM xiF xiG:Value}
 {xi0:Addr}
 {xed xdv:Option Addr} {xet:Array (Option Value)} {xea xdX xdP xek xdF xdJ:Value}
 {xfc:Addr}
 {xbV xbh:Option Addr} {xcb:Array (Option Value)} {xbS xbG xbz xb2 xbq xbt:Value}
 {xcL:Addr}
 {xbU xbg:Option Addr} {xca:Array (Option Value)} {xbR xbF xby xb1 xbp xbs:Value}
 {xcK:Addr}
 {xaQ xau:Option Addr} {xa2:Array (Option Value)} {xaN xaK xaG xaV xaA xaD:Value}
 {xbA:Addr}
 {xeb xdt:Option Addr} {xer:Array (Option Value)} {xd8 xdV xdN xei xdD xdH:Value}
 {xfa:Addr}
 {xc4 xcq:Option Addr} {xdi:Array (Option Value)} {xc1 xcP xcI xc8 xcz xcC:Value}
 {xdS:Addr}
 {xc2 xco:Option Addr} {xdg:Array (Option Value)} {xcZ xcN xcG xc6 xcx xcA:Value}
 {xdQ:Addr}
 {xbT xbf:Option Addr} {xb9:Array (Option Value)} {xbQ xbE xbx xb0 xbo xbr:Value}
 {xcJ:Addr}
 {xhm xgm:Option Addr} {xhD:Array (Option Value)} {xhj xg3 xgJ xhs xgA xgD:Value}
 {xie:Addr}
 {xaR xav:Option Addr} {xa3:Array (Option Value)} {xaO xaL xaH xaW xaB xaE:Value}
 {xbB:Addr}
 {xc3 xcp:Option Addr} {xdh:Array (Option Value)} {xc0 xcO xcH xc7 xcy xcB:Value}
 {xdR:Addr}
 {xfC xeI:Option Addr} {xfS:Array (Option Value)} {xfz xfl xe4 xfJ xeU xeY:Value}
 {xgP:Addr}
 {xi6 xiT:Option Addr} {xjb:Array (Option Value)} {xi5 xi1 xiZ xi8 xiW xiX:Value}
 {f_law:Addr}
 {xex:Addr}
 {xf9:Addr}
 {xdj:Addr}
 {xga:Addr}
 {xhU:Addr}
 {xf8:Addr}
 {xhV:Addr}
 {xeO xeP xew:List Value} {xgh:Addr} {xfy xhv:Str} {xcM xeH:Bool} {xfV:List Str} {xdG:Option Bool} {xe7:Option Addr} {xfg xfh xfi xfj xfk:Option Value}
 {xgs xgt xfX:List Value} {xh2:Addr} {xhi xiv:Str} {xdU xgl:Bool} {xhG:List Str} {xeX:Option Bool} {xgM:Option Addr} {xgY xgZ xg0 xg1 xg2:Option Value}
 {xat:Tok}
 {xhJ:Tok}
 {xiC:Tok}
 {xce:Tok}
 (KX:K.In h) (G:h.Ns mainGlobals mg) (hfa:mg "law" = some (.ref fa))
 (xgk:PySem.W.nsIn K mainGlobals "is_whole" = some (some (.ref xgR)))
 (xhb:K.lookup xgR = some ⟨xfB,xfE,.func (PySem.W.fnOf "is_whole" "is_whole" (defArgs xhy) (defBody xhy) (defScope xhy) .none xfn xe6 xfL xeK xeW xe0),xfU⟩)
 (xgz:PySem.W.codeIn K xeW "is_whole" = true)
 (xg8:PySem.W.keepIn K (.ref xgR) = true)
 (xgj:PySem.W.nsIn K mainGlobals "is_round" = some (some (.ref xgQ)))
 (xha:K.lookup xgQ = some ⟨xfA,xfD,.func (PySem.W.fnOf "is_round" "is_round" (defArgs xhx) (defBody xhx) (defScope xhx) .none xfm xe5 xfK xeJ xeV xeZ),xfT⟩)
 (xgy:PySem.W.codeIn K xeV "is_round" = true)
 (xg7:PySem.W.keepIn K (.ref xgQ) = true)
 (xh4:PySem.W.nsIn K mainGlobals "is_rest" = some (some (.ref xif)))
 (xio:K.lookup xif = some ⟨xhk,xhn,.func (PySem.W.fnOf "is_rest" "is_rest" (defArgs xix) (defBody xix) (defScope xix) .none xg4 xgK xht xgn xgB xgE),xhE⟩)
 (xh9:PySem.W.codeIn K xgB "is_rest" = true)
 (xil:PySem.W.keepIn K (.ref xif) = true)
 (xbe:PySem.W.nsIn K mainGlobals "is_rest_pair" = some (some (.ref xbC)))
 (xbM:K.lookup xbC = some ⟨xaP,xaS,.func (PySem.W.fnOf "is_rest_pair" "is_rest_pair" (defArgs xb5) (defBody xb5) (defScope xb5) .none xaM xaI xaX xaw xaC xaF),xa4⟩)
 (xbn:PySem.W.codeIn K xaC "is_rest_pair" = true)
 (xbJ:PySem.W.keepIn K (.ref xbC) = true)
 (xeF:PySem.W.nsIn K mainGlobals "are_rests" = some (some (.ref xfb)))
 (xfs:K.lookup xfb = some ⟨xd9,xec,.func (PySem.W.fnOf "are_rests" "are_rests" (defArgs xfN) (defBody xfN) (defScope xfN) .none xdW xdO xej xdu xdE xdI),xes⟩)
 (xeS:PySem.W.codeIn K xdE "are_rests" = true)
 (xfp:PySem.W.keepIn K (.ref xfb) = true)
 (xh5:PySem.W.nsIn K mainGlobals "written" = some (some (.ref xig)))
 (xip:K.lookup xig = some ⟨xhl,xho,.func (PySem.W.fnOf "written" "written" (defArgs xiy) (defBody xiy) (defScope xiy) .none xg5 xgL xhu xgo xgC xgF),xhF⟩)
 (xia:PySem.W.codeIn K xgC "written" = true)
 (xim:PySem.W.keepIn K (.ref xig) = true)
 (xiS:PySem.W.nsIn K mainGlobals "read" = some (some (.ref xi0)))
 (xi3:K.lookup xi0 = some ⟨xiJ,xiK,.func (PySem.W.fnOf "read" "read" (defArgs xi9) (defBody xi9) (defScope xi9) .none xiI xiH xiM xiD xiF xiG),xiO⟩)
 (xiV:PySem.W.codeIn K xiF "read" = true)
 (xi2:PySem.W.keepIn K (.ref xi0) = true)
 (xeG:PySem.W.nsIn K mainGlobals "read_pair" = some (some (.ref xfc)))
 (xft:K.lookup xfc = some ⟨xea,xed,.func (PySem.W.fnOf "read_pair" "read_pair" (defArgs xfO) (defBody xfO) (defScope xfO) .none xdX xdP xek xdv xdF xdJ),xet⟩)
 (xeT:PySem.W.codeIn K xdF "read_pair" = true)
 (xfq:PySem.W.keepIn K (.ref xfc) = true)
 (xcn:PySem.W.nsIn K mainGlobals "read_number" = some (some (.ref xcL)))
 (xcV:K.lookup xcL = some ⟨xbS,xbV,.func (PySem.W.fnOf "read_number" "read_number" (defArgs xdb) (defBody xdb) (defScope xdb) .none xbG xbz xb2 xbh xbq xbt),xcb⟩)
 (xcw:PySem.W.codeIn K xbq "read_number" = true)
 (xcS:PySem.W.keepIn K (.ref xcL) = true)
 (xcm:PySem.W.nsIn K mainGlobals "are_figures" = some (some (.ref xcK)))
 (xcU:K.lookup xcK = some ⟨xbR,xbU,.func (PySem.W.fnOf "are_figures" "are_figures" (defArgs xda) (defBody xda) (defScope xda) .none xbF xby xb1 xbg xbp xbs),xca⟩)
 (xcv:PySem.W.codeIn K xbp "are_figures" = true)
 (xcR:PySem.W.keepIn K (.ref xcK) = true)
 (xbc:PySem.W.nsIn K mainGlobals "_law_cell_at" = some (some (.ref xbA)))
 (xbK:K.lookup xbA = some ⟨xaN,xaQ,.func (PySem.W.fnOf "_law_cell_at" "_law_cell_at" (defArgs xb3) (defBody xb3) (defScope xb3) .none xaK xaG xaV xau xaA xaD),xa2⟩)
 (xbl:PySem.W.codeIn K xaA "_law_cell_at" = true)
 (xbH:PySem.W.keepIn K (.ref xbA) = true)
 (xeE:PySem.W.nsIn K mainGlobals "_law_draw" = some (some (.ref xfa)))
 (xfr:K.lookup xfa = some ⟨xd8,xeb,.func (PySem.W.fnOf "_law_draw" "_law_draw" (defArgs xfM) (defBody xfM) (defScope xfM) .none xdV xdN xei xdt xdD xdH),xer⟩)
 (xeR:PySem.W.codeIn K xdD "_law_draw" = true)
 (xfo:PySem.W.keepIn K (.ref xfa) = true)
 (xds:PySem.W.nsIn K mainGlobals "_law_turns" = some (some (.ref xdS)))
 (xd3:K.lookup xdS = some ⟨xc1,xc4,.func (PySem.W.fnOf "_law_turns" "_law_turns" (defArgs xen) (defBody xen) (defScope xen) .none xcP xcI xc8 xcq xcz xcC),xdi⟩)
 (xdC:PySem.W.codeIn K xcz "_law_turns" = true)
 (xd0:PySem.W.keepIn K (.ref xdS) = true)
 (xdq:PySem.W.nsIn K mainGlobals "_law_rests" = some (some (.ref xdQ)))
 (xd1:K.lookup xdQ = some ⟨xcZ,xc2,.func (PySem.W.fnOf "_law_rests" "_law_rests" (defArgs xel) (defBody xel) (defScope xel) .none xcN xcG xc6 xco xcx xcA),xdg⟩)
 (xdA:PySem.W.codeIn K xcx "_law_rests" = true)
 (xdY:PySem.W.keepIn K (.ref xdQ) = true)
 (xcl:PySem.W.nsIn K mainGlobals "_law_number" = some (some (.ref xcJ)))
 (xcT:K.lookup xcJ = some ⟨xbQ,xbT,.func (PySem.W.fnOf "_law_number" "_law_number" (defArgs xc9) (defBody xc9) (defScope xc9) .none xbE xbx xb0 xbf xbo xbr),xb9⟩)
 (xcu:PySem.W.codeIn K xbo "_law_number" = true)
 (xcQ:PySem.W.keepIn K (.ref xcJ) = true)
 (xh3:PySem.W.nsIn K mainGlobals "_law_in" = some (some (.ref xie)))
 (xin:K.lookup xie = some ⟨xhj,xhm,.func (PySem.W.fnOf "_law_in" "_law_in" (defArgs xiw) (defBody xiw) (defScope xiw) .none xg3 xgJ xhs xgm xgA xgD),xhD⟩)
 (xh8:PySem.W.codeIn K xgA "_law_in" = true)
 (xik:PySem.W.keepIn K (.ref xie) = true)
 (xbd:PySem.W.nsIn K mainGlobals "_law_refused" = some (some (.ref xbB)))
 (xbL:K.lookup xbB = some ⟨xaO,xaR,.func (PySem.W.fnOf "_law_refused" "_law_refused" (defArgs xb4) (defBody xb4) (defScope xb4) .none xaL xaH xaW xav xaB xaE),xa3⟩)
 (xbm:PySem.W.codeIn K xaB "_law_refused" = true)
 (xbI:PySem.W.keepIn K (.ref xbB) = true)
 (xdr:PySem.W.nsIn K mainGlobals "_law_right" = some (some (.ref xdR)))
 (xd2:K.lookup xdR = some ⟨xc0,xc3,.func (PySem.W.fnOf "_law_right" "_law_right" (defArgs xem) (defBody xem) (defScope xem) .none xcO xcH xc7 xcp xcy xcB),xdh⟩)
 (xdB:PySem.W.codeIn K xcy "_law_right" = true)
 (xdZ:PySem.W.keepIn K (.ref xdR) = true)
 (xgi:PySem.W.nsIn K mainGlobals "_law_few" = some (some (.ref xgP)))
 (xg9:K.lookup xgP = some ⟨xfz,xfC,.func (PySem.W.fnOf "_law_few" "_law_few" (defArgs xhw) (defBody xhw) (defScope xhw) .none xfl xe4 xfJ xeI xeU xeY),xfS⟩)
 (xgx:PySem.W.codeIn K xeU "_law_few" = true)
 (xg6:PySem.W.keepIn K (.ref xgP) = true)
 (a_law:PySem.W.nsIn K mainGlobals "law" = some (some (.ref f_law)))
 (l_law:K.lookup f_law = some ⟨xi5,xi6,.func (PySem.W.fnOf "law" "law" (defArgs s_law) (defBody s_law) (defScope s_law) .none xi1 xiZ xi8 xiT xiW xiX),xjb⟩)
 (c_law:PySem.W.codeIn K xiW "law" = true)
 (k_law:PySem.W.keepIn K (.ref f_law) = true)
 (xfd:PySem.W.nsIn K mainGlobals "RestError" = some (some (.ref xex)))
 (xgT:PySem.W.nsIn K mainGlobals "BadRests" = some (some (.ref xf9)))
 (xdT:PySem.W.nsIn K mainGlobals "BadNumbers" = some (some (.ref xdj)))
 (xgU:PySem.W.nsIn K mainGlobals "BadRound" = some (some (.ref xga)))
 (xih:PySem.W.nsIn K mainGlobals "BadRest" = some (some (.ref xhU)))
 (xgS:PySem.W.nsIn K mainGlobals "BadCount" = some (some (.ref xf8)))
 (xii:PySem.W.nsIn K mainGlobals "BadText" = some (some (.ref xhV)))
 (xf3:K.lookup xf9 = some (excClassObj xfy xhv xf9 xgh xeP xeO xcM xfV xew xeH xdG xe7 xfg xfh xfi xfj xfk "ValueError.__new__"))
 (xf4:PySem.W.nsOkIn K xgh = true)
 (xf2:PySem.W.nsIn K xgh "__init__" = some none)
 (xf7:PySem.W.tailIn K veM xeO = true)
 (xf1:PySem.W.findIn K (.ref xf9) "__getattribute__" = some (some (.builtin "BaseException.__getattribute__")))
 (xf6:PySem.W.findIn K (.ref xf9) "__getattr__" = some none)
 (xf0:PySem.W.findIn K (.ref xf9) "__class__" = some (some (.builtin "object.__class__")))
 (xf5:PySem.W.mroIn K xf9 (.type "object") = some true)
 (xfY:PySem.W.subIn K (.ref xf9) (.type "BaseException") = some true)
 (xfZ:(PySem.W.clsIn K xf9).isSome = true)
 (xac:PySem.W.exmOne K (.ref xf9) (.ref xex) = some true)
 (xae:PySem.W.kitOne K (.ref xf9) (.ref xf9) = some true)
 (xaa:PySem.W.kitOne K (.ref xf9) (.ref xdj) = some false)
 (xaf:PySem.W.kitOne K (.ref xf9) (.ref xga) = some false)
 (xah:PySem.W.kitOne K (.ref xf9) (.ref xhU) = some false)
 (xad:PySem.W.kitOne K (.ref xf9) (.ref xf8) = some false)
 (xai:PySem.W.kitOne K (.ref xf9) (.ref xhV) = some false)
 (xff:PySem.W.kitOne K (.ref xf9) (.type "ValueError") = some true)
 (xhP:K.lookup xhV = some (excClassObj xhi xiv xhV xh2 xgt xgs xdU xhG xfX xgl xeX xgM xgY xgZ xg0 xg1 xg2 "ValueError.__new__"))
 (xhQ:PySem.W.nsOkIn K xh2 = true)
 (xhO:PySem.W.nsIn K xh2 "__init__" = some none)
 (xhT:PySem.W.tailIn K veM xgs = true)
 (xhN:PySem.W.findIn K (.ref xhV) "__getattribute__" = some (some (.builtin "BaseException.__getattribute__")))
 (xhS:PySem.W.findIn K (.ref xhV) "__getattr__" = some none)
 (xhM:PySem.W.findIn K (.ref xhV) "__class__" = some (some (.builtin "object.__class__")))
 (xhR:PySem.W.mroIn K xhV (.type "object") = some true)
 (xhK:PySem.W.subIn K (.ref xhV) (.type "BaseException") = some true)
 (xhL:(PySem.W.clsIn K xhV).isSome = true)
 (xag:PySem.W.exmOne K (.ref xhV) (.ref xex) = some true)
 (xak:PySem.W.kitOne K (.ref xhV) (.ref xf9) = some false)
 (xab:PySem.W.kitOne K (.ref xhV) (.ref xdj) = some false)
 (xal:PySem.W.kitOne K (.ref xhV) (.ref xga) = some false)
 (xam:PySem.W.kitOne K (.ref xhV) (.ref xhU) = some false)
 (xaj:PySem.W.kitOne K (.ref xhV) (.ref xf8) = some false)
 (xan:PySem.W.kitOne K (.ref xhV) (.ref xhV) = some true)
 (xgX:PySem.W.kitOne K (.ref xhV) (.type "ValueError") = some true)
 (xao:PySem.W.nsIn K mainGlobals "GREATEST_ROUND" = some (some (.int 1000000 xat)))
 (xfe:PySem.W.nsIn K mainGlobals "NO_RESTS" = some (some (.str "-" xhJ)))
 (xgW:PySem.W.nsIn K mainGlobals "FIGURES" = some (some (.str "0123456789" xiC)))
 (xaJ:PySem.W.nsIn K mainGlobals "MOST_FIGURES" = some (some (.int 7 xce)))
 (z_ValueError:PySem.W.nsIn K mainGlobals "ValueError" = some none)
 (z_abs:PySem.W.nsIn K mainGlobals "abs" = some none)
 (z_all:PySem.W.nsIn K mainGlobals "all" = some none)
 (z_any:PySem.W.nsIn K mainGlobals "any" = some none)
 (z_bool:PySem.W.nsIn K mainGlobals "bool" = some none)
 (z_enumerate:PySem.W.nsIn K mainGlobals "enumerate" = some none)
 (z_int:PySem.W.nsIn K mainGlobals "int" = some none)
 (z_isinstance:PySem.W.nsIn K mainGlobals "isinstance" = some none)
 (z_len:PySem.W.nsIn K mainGlobals "len" = some none)
 (z_list:PySem.W.nsIn K mainGlobals "list" = some none)
 (z_range:PySem.W.nsIn K mainGlobals "range" = some none)
 (z_str:PySem.W.nsIn K mainGlobals "str" = some none)
 (z_sum:PySem.W.nsIn K mainGlobals "sum" = some none)
 (z_tuple:PySem.W.nsIn K mainGlobals "tuple" = some none)
 (is_NoneType_int:PySem.W.kitOne K (.type "NoneType") (.type "int") = some false)
 (is_bool_int:PySem.W.kitOne K (.type "bool") (.type "int") = some true)
 (is_int_int:PySem.W.kitOne K (.type "int") (.type "int") = some true)
 (is_str_int:PySem.W.kitOne K (.type "str") (.type "int") = some false)
 (is_list_int:PySem.W.kitOne K (.type "list") (.type "int") = some false)
 (is_tuple_int:PySem.W.kitOne K (.type "tuple") (.type "int") = some false)
 (is_int_bool:PySem.W.kitOne K (.type "int") (.type "bool") = some false)
 (is_bool_bool:PySem.W.kitOne K (.type "bool") (.type "bool") = some true)
 (is_NoneType_list:PySem.W.kitOne K (.type "NoneType") (.type "list") = some false)
 (is_bool_list:PySem.W.kitOne K (.type "bool") (.type "list") = some false)
 (is_int_list:PySem.W.kitOne K (.type "int") (.type "list") = some false)
 (is_str_list:PySem.W.kitOne K (.type "str") (.type "list") = some false)
 (is_list_list:PySem.W.kitOne K (.type "list") (.type "list") = some true)
 (is_tuple_list:PySem.W.kitOne K (.type "tuple") (.type "list") = some false)
 (is_NoneType_tuple:PySem.W.kitOne K (.type "NoneType") (.type "tuple") = some false)
 (is_bool_tuple:PySem.W.kitOne K (.type "bool") (.type "tuple") = some false)
 (is_int_tuple:PySem.W.kitOne K (.type "int") (.type "tuple") = some false)
 (is_str_tuple:PySem.W.kitOne K (.type "str") (.type "tuple") = some false)
 (is_list_tuple:PySem.W.kitOne K (.type "list") (.type "tuple") = some false)
 (is_tuple_tuple:PySem.W.kitOne K (.type "tuple") (.type "tuple") = some true)
 (is_NoneType_str:PySem.W.kitOne K (.type "NoneType") (.type "str") = some false)
 (is_bool_str:PySem.W.kitOne K (.type "bool") (.type "str") = some false)
 (is_int_str:PySem.W.kitOne K (.type "int") (.type "str") = some false)
 (is_str_str:PySem.W.kitOne K (.type "str") (.type "str") = some true)
 (is_list_str:PySem.W.kitOne K (.type "list") (.type "str") = some false)
 (is_tuple_str:PySem.W.kitOne K (.type "tuple") (.type "str") = some false)
 : ∃ fd:FuncData,(∀ (s:Shared) (v:Value),BindsTo s fd ⟨[v],[]⟩ [("_law_script", v)]) ∧ ∀ base:Heap,K.In base → base.Ns mainGlobals mg → FnOk l.prog w K mg base CX0 10 fa fd ["_law_script"] (xjc K):=by
  have e:=hfa.symm.trans (PySem.W.mg_of KX G a_law)
  cases e
  have T:Txt K mg ⟨xgR,(PySem.W.fnOf "is_whole" "is_whole" (defArgs xhy) (defBody xhy) (defScope xhy) .none xfn xe6 xfL xeK xeW xe0),xgQ,(PySem.W.fnOf "is_round" "is_round" (defArgs xhx) (defBody xhx) (defScope xhx) .none xfm xe5 xfK xeJ xeV xeZ),xif,(PySem.W.fnOf "is_rest" "is_rest" (defArgs xix) (defBody xix) (defScope xix) .none xg4 xgK xht xgn xgB xgE),xbC,(PySem.W.fnOf "is_rest_pair" "is_rest_pair" (defArgs xb5) (defBody xb5) (defScope xb5) .none xaM xaI xaX xaw xaC xaF),xfb,(PySem.W.fnOf "are_rests" "are_rests" (defArgs xfN) (defBody xfN) (defScope xfN) .none xdW xdO xej xdu xdE xdI),xig,(PySem.W.fnOf "written" "written" (defArgs xiy) (defBody xiy) (defScope xiy) .none xg5 xgL xhu xgo xgC xgF),xi0,(PySem.W.fnOf "read" "read" (defArgs xi9) (defBody xi9) (defScope xi9) .none xiI xiH xiM xiD xiF xiG),xfc,(PySem.W.fnOf "read_pair" "read_pair" (defArgs xfO) (defBody xfO) (defScope xfO) .none xdX xdP xek xdv xdF xdJ),xcL,(PySem.W.fnOf "read_number" "read_number" (defArgs xdb) (defBody xdb) (defScope xdb) .none xbG xbz xb2 xbh xbq xbt),xcK,(PySem.W.fnOf "are_figures" "are_figures" (defArgs xda) (defBody xda) (defScope xda) .none xbF xby xb1 xbg xbp xbs),xbA,(PySem.W.fnOf "_law_cell_at" "_law_cell_at" (defArgs xb3) (defBody xb3) (defScope xb3) .none xaK xaG xaV xau xaA xaD),xfa,(PySem.W.fnOf "_law_draw" "_law_draw" (defArgs xfM) (defBody xfM) (defScope xfM) .none xdV xdN xei xdt xdD xdH),xdS,(PySem.W.fnOf "_law_turns" "_law_turns" (defArgs xen) (defBody xen) (defScope xen) .none xcP xcI xc8 xcq xcz xcC),xdQ,(PySem.W.fnOf "_law_rests" "_law_rests" (defArgs xel) (defBody xel) (defScope xel) .none xcN xcG xc6 xco xcx xcA),xcJ,(PySem.W.fnOf "_law_number" "_law_number" (defArgs xc9) (defBody xc9) (defScope xc9) .none xbE xbx xb0 xbf xbo xbr),xie,(PySem.W.fnOf "_law_in" "_law_in" (defArgs xiw) (defBody xiw) (defScope xiw) .none xg3 xgJ xhs xgm xgA xgD),xbB,(PySem.W.fnOf "_law_refused" "_law_refused" (defArgs xb4) (defBody xb4) (defScope xb4) .none xaL xaH xaW xav xaB xaE),xdR,(PySem.W.fnOf "_law_right" "_law_right" (defArgs xem) (defBody xem) (defScope xem) .none xcO xcH xc7 xcp xcy xcB),xgP,(PySem.W.fnOf "_law_few" "_law_few" (defArgs xhw) (defBody xhw) (defScope xhw) .none xfl xe4 xfJ xeI xeU xeY),fa,(PySem.W.fnOf "law" "law" (defArgs s_law) (defBody s_law) (defScope s_law) .none xi1 xiZ xi8 xiT xiW xiX),xex,xf9,xdj,xga,xhU,xf8,xhV,xat,xhJ,xiC,xce⟩:=⟨fun_mk (st:=xhy) xhb xgz xg8,
    (fun_mk (st:=xhy) xhb xgz xg8).binds (ps:=["value"]) (fun _ _ _ _ _ _ us hl=>match us,hl with | [_],_=>rfl),
    PySem.W.mg_of KX G xgk,
    xg8,
    fun_mk (st:=xhx) xha xgy xg7,
    (fun_mk (st:=xhx) xha xgy xg7).binds (ps:=["value"]) (fun _ _ _ _ _ _ us hl=>match us,hl with | [_],_=>rfl),
    PySem.W.mg_of KX G xgj,
    xg7,
    fun_mk (st:=xix) xio xh9 xil,
    (fun_mk (st:=xix) xio xh9 xil).binds (ps:=["value", "turn"]) (fun _ _ _ _ _ _ us hl=>match us,hl with | [_,_],_=>rfl),
    PySem.W.mg_of KX G xh4,
    xil,
    fun_mk (st:=xb5) xbM xbn xbJ,
    (fun_mk (st:=xb5) xbM xbn xbJ).binds (ps:=["value"]) (fun _ _ _ _ _ _ us hl=>match us,hl with | [_],_=>rfl),
    PySem.W.mg_of KX G xbe,
    xbJ,
    fun_mk (st:=xfN) xfs xeS xfp,
    (fun_mk (st:=xfN) xfs xeS xfp).binds (ps:=["value"]) (fun _ _ _ _ _ _ us hl=>match us,hl with | [_],_=>rfl),
    PySem.W.mg_of KX G xeF,
    xfp,
    fun_mk (st:=xiy) xip xia xim,
    (fun_mk (st:=xiy) xip xia xim).binds (ps:=["rests"]) (fun _ _ _ _ _ _ us hl=>match us,hl with | [_],_=>rfl),
    PySem.W.mg_of KX G xh5,
    xim,
    fun_mk (st:=xi9) xi3 xiV xi2,
    (fun_mk (st:=xi9) xi3 xiV xi2).binds (ps:=["text"]) (fun _ _ _ _ _ _ us hl=>match us,hl with | [_],_=>rfl),
    PySem.W.mg_of KX G xiS,
    xi2,
    fun_mk (st:=xfO) xft xeT xfq,
    (fun_mk (st:=xfO) xft xeT xfq).binds (ps:=["word"]) (fun _ _ _ _ _ _ us hl=>match us,hl with | [_],_=>rfl),
    PySem.W.mg_of KX G xeG,
    xfq,
    fun_mk (st:=xdb) xcV xcw xcS,
    (fun_mk (st:=xdb) xcV xcw xcS).binds (ps:=["word"]) (fun _ _ _ _ _ _ us hl=>match us,hl with | [_],_=>rfl),
    PySem.W.mg_of KX G xcn,
    xcS,
    fun_mk (st:=xda) xcU xcv xcR,
    (fun_mk (st:=xda) xcU xcv xcR).binds (ps:=["word"]) (fun _ _ _ _ _ _ us hl=>match us,hl with | [_],_=>rfl),
    PySem.W.mg_of KX G xcm,
    xcR,
    fun_mk (st:=xb3) xbK xbl xbH,
    (fun_mk (st:=xb3) xbK xbl xbH).binds (ps:=["_law_script", "_law_k"]) (fun _ _ _ _ _ _ us hl=>match us,hl with | [_,_],_=>rfl),
    PySem.W.mg_of KX G xbc,
    xbH,
    fun_mk (st:=xfM) xfr xeR xfo,
    (fun_mk (st:=xfM) xfr xeR xfo).binds (ps:=["_law_cell", "_law_k", "_law_many"]) (fun _ _ _ _ _ _ us hl=>match us,hl with | [_,_,_],_=>rfl),
    PySem.W.mg_of KX G xeE,
    xfo,
    fun_mk (st:=xen) xd3 xdC xd0,
    (fun_mk (st:=xen) xd3 xdC xd0).binds (ps:=["_law_script"]) (fun _ _ _ _ _ _ us hl=>match us,hl with | [_],_=>rfl),
    PySem.W.mg_of KX G xds,
    xd0,
    fun_mk (st:=xel) xd1 xdA xdY,
    (fun_mk (st:=xel) xd1 xdA xdY).binds (ps:=["_law_script"]) (fun _ _ _ _ _ _ us hl=>match us,hl with | [_],_=>rfl),
    PySem.W.mg_of KX G xdq,
    xdY,
    fun_mk (st:=xc9) xcT xcu xcQ,
    (fun_mk (st:=xc9) xcT xcu xcQ).binds (ps:=["_law_text"]) (fun _ _ _ _ _ _ us hl=>match us,hl with | [_],_=>rfl),
    PySem.W.mg_of KX G xcl,
    xcQ,
    fun_mk (st:=xiw) xin xh8 xik,
    (fun_mk (st:=xiw) xin xh8 xik).binds (ps:=["_law_text"]) (fun _ _ _ _ _ _ us hl=>match us,hl with | [_],_=>rfl),
    PySem.W.mg_of KX G xh3,
    xik,
    fun_mk (st:=xb4) xbL xbm xbI,
    (fun_mk (st:=xb4) xbL xbm xbI).binds (ps:=["_law_text"]) (fun _ _ _ _ _ _ us hl=>match us,hl with | [_],_=>rfl),
    PySem.W.mg_of KX G xbd,
    xbI,
    fun_mk (st:=xem) xd2 xdB xdZ,
    (fun_mk (st:=xem) xd2 xdB xdZ).binds (ps:=["_law_text"]) (fun _ _ _ _ _ _ us hl=>match us,hl with | [_],_=>rfl),
    PySem.W.mg_of KX G xdr,
    xdZ,
    fun_mk (st:=xhw) xg9 xgx xg6,
    (fun_mk (st:=xhw) xg9 xgx xg6).binds (ps:=[]) (fun _ _ _ _ _ _ us hl=>match us,hl with | [],_=>rfl),
    PySem.W.mg_of KX G xgi,
    xg6,
    fun_mk (st:=s_law) l_law c_law k_law,
    (fun_mk (st:=s_law) l_law c_law k_law).binds (ps:=["_law_script"]) (fun _ _ _ _ _ _ us hl=>match us,hl with | [_],_=>rfl),
    PySem.W.mg_of KX G a_law,
    k_law,
    PySem.W.mg_of KX G xfd,
    PySem.W.mg_of KX G xgT,
    PySem.W.mg_of KX G xdT,
    PySem.W.mg_of KX G xgU,
    PySem.W.mg_of KX G xih,
    PySem.W.mg_of KX G xgS,
    PySem.W.mg_of KX G xii,
    ⟨_,_,_,_,_,_,_,_,_,_,_,_,_,_,_,_,xf3,xf4,xf2,xf7⟩,
    ⟨xf1,xf6,xf0,xf5,xfY,xfZ⟩,
    xac,
    xae,
    xaa,
    xaf,
    xah,
    xad,
    xai,
    xff,
    ⟨_,_,_,_,_,_,_,_,_,_,_,_,_,_,_,_,xhP,xhQ,xhO,xhT⟩,
    ⟨xhN,xhS,xhM,xhR,xhK,xhL⟩,
    xag,
    xak,
    xab,
    xal,
    xam,
    xaj,
    xan,
    xgX,
    PySem.W.mg_of KX G xao,
    PySem.W.mg_of KX G xfe,
    PySem.W.mg_of KX G xgW,
    PySem.W.mg_of KX G xaJ,
    PySem.W.mg_none_of KX G z_ValueError,
    PySem.W.mg_none_of KX G z_abs,
    PySem.W.mg_none_of KX G z_all,
    PySem.W.mg_none_of KX G z_any,
    PySem.W.mg_none_of KX G z_bool,
    PySem.W.mg_none_of KX G z_enumerate,
    PySem.W.mg_none_of KX G z_int,
    PySem.W.mg_none_of KX G z_isinstance,
    PySem.W.mg_none_of KX G z_len,
    PySem.W.mg_none_of KX G z_list,
    PySem.W.mg_none_of KX G z_range,
    PySem.W.mg_none_of KX G z_str,
    PySem.W.mg_none_of KX G z_sum,
    PySem.W.mg_none_of KX G z_tuple,
    is_NoneType_int,
    is_bool_int,
    is_int_int,
    is_str_int,
    is_list_int,
    is_tuple_int,
    is_int_bool,
    is_bool_bool,
    is_NoneType_list,
    is_bool_list,
    is_int_list,
    is_str_list,
    is_list_list,
    is_tuple_list,
    is_NoneType_tuple,
    is_bool_tuple,
    is_int_tuple,
    is_str_tuple,
    is_list_tuple,
    is_tuple_tuple,
    is_NoneType_str,
    is_bool_str,
    is_int_str,
    is_str_str,
    is_list_str,
    is_tuple_str⟩
  exact ⟨PySem.W.fnOf "law" "law" (defArgs s_law) (defBody s_law) (defScope s_law) .none xi1 xiZ xi8 xiT xiW xiX,fun s v=>.of_eq rfl,fun base _ _=>xi7 T⟩
theorem walk {l:PySem.W.OpenLaw} {q:Program} {loose:List Str} {XP:(Str → Option Value) → Heap → Prop} {YP:World → Heap → Prop} {d:DefRec} {K:Params → PySem.W.Frag} (hn:l.most = some 63) (hdf:d.params.defaults = [])
    (hY:∀ (w:World) (h:Heap),YP w h → (K w.params).In h)
    (F:∀ (w:World) (mg:Str → Option Value) (fa:Addr) (h:Heap),(K w.params).In h → h.Ns mainGlobals mg → mg d.name = some (.ref fa) →
      ∃ fd:FuncData,(∀ (s:Shared) (u:Value),BindsTo s fd ⟨[u],[]⟩ [("_law_script", u)]) ∧ ∀ base:Heap,(K w.params).In base → base.Ns mainGlobals mg → FnOk l.prog w (K w.params) mg base CX0 10 fa fd ["_law_script"] (xjc (K w.params))) :
    PySem.W.WalkO q loose XP YP l.row.toRowW d [] (fun f vs=>PySem.call f vs) :=
  L2.walk_ofX (n:=63) (k:=10) (x := "_law_script") (CX:=fun _=>CX0) (sp:=fun w=>xjc (K w.params)) hn (by decide) hdf ⟨rfl,by decide,by decide⟩ hY F (fun _ _ a ns hl _ hS=>⟨a,ns,rfl,hS,hl,fun _=>rfl⟩) fun _ _ _ _ _ z=>z
end W07
open PySem PySem.W PyProof.Rows
set_option maxRecDepth 100000 in
set_option maxHeartbeats 0 in
theorem PySem.Challenge.cw_wheelrow_k07_written_holds : PySem.Challenge.rw_wheelrow_k07_written.Holds := by
  w_on; o_law
  refine PySem.W.holds_open (q:=H07.Q) (loose:=[]) (Xt:=H07.XtOf H07.Q) (XP:=XL H07.Q []) (Yf:=Hook.obs (kHook H07.K H07.as H07.as_eq)) (Ya:=Hook.val (kHook H07.K H07.as H07.as_eq)) (YP:=Hook.says (kHook H07.K H07.as H07.as_eq)) (N:=4532) H07.left (Hook.of H07.H) (Hook.keeps H07.H) (fun s e=>xl_of s (Bool.and_eq_true_iff.mp e).1) XL.keeps (by rfl) (by rfl) (by rfl) (fun s e=>recFacts_of (Bool.and_eq_true_iff.mp e).2) (by rfl) (by first | assumption | decide +kernel) (by decide +kernel) ⟨rfl,rfl,rfl,rfl,rfl,by decide +kernel⟩ ?hw ?hc
  (case hw=>w_witness2)
  k_fill
  refine W07.walk (l:=PySem.Challenge.rw_wheelrow_k07_written) rfl rfl (fun w h Y=>PySem.W.kIn_of Y) ?F
  case F =>
    intro w mg fa h KX G hmg
    refine' W07.all_mk KX G hmg ?xgk ?xhb ?xgz ?xg8 ?xgj ?xha ?xgy ?xg7 ?xh4 ?xio ?xh9 ?xil ?xbe ?xbM ?xbn ?xbJ ?xeF ?xfs ?xeS ?xfp ?xh5 ?xip ?xia ?xim ?xiS ?xi3 ?xiV ?xi2 ?xeG ?xft ?xeT ?xfq ?xcn ?xcV ?xcw ?xcS ?xcm ?xcU ?xcv ?xcR ?xbc ?xbK ?xbl ?xbH ?xeE ?xfr ?xeR ?xfo ?xds ?xd3 ?xdC ?xd0 ?xdq ?xd1 ?xdA ?xdY ?xcl ?xcT ?xcu ?xcQ ?xh3 ?xin ?xh8 ?xik ?xbd ?xbL ?xbm ?xbI ?xdr ?xd2 ?xdB ?xdZ ?xgi ?xg9 ?xgx ?xg6 ?a_law ?l_law ?c_law ?k_law ?xfd ?xgT ?xdT ?xgU ?xih ?xgS ?xii ?xf3 ?xf4 ?xf2 ?xf7 ?xf1 ?xf6 ?xf0 ?xf5 ?xfY ?xfZ ?xac ?xae ?xaa ?xaf ?xah ?xad ?xai ?xff ?xhP ?xhQ ?xhO ?xhT ?xhN ?xhS ?xhM ?xhR ?xhK ?xhL ?xag ?xak ?xab ?xal ?xam ?xaj ?xan ?xgX ?xao ?xfe ?xgW ?xaJ ?z_ValueError ?z_abs ?z_all ?z_any ?z_bool ?z_enumerate ?z_int ?z_isinstance ?z_len ?z_list ?z_range ?z_str ?z_sum ?z_tuple ?is_NoneType_int ?is_bool_int ?is_int_int ?is_str_int ?is_list_int ?is_tuple_int ?is_int_bool ?is_bool_bool ?is_NoneType_list ?is_bool_list ?is_int_list ?is_str_list ?is_list_list ?is_tuple_list ?is_NoneType_tuple ?is_bool_tuple ?is_int_tuple ?is_str_tuple ?is_list_tuple ?is_tuple_tuple ?is_NoneType_str ?is_bool_str ?is_int_str ?is_str_str ?is_list_str ?is_tuple_str
    (case xgk=>k_is)
    (case xhb=>k_is)
    (case xgz=>k_is)
    (case xg8=>k_is)
    (case xgj=>k_is)
    (case xha=>k_is)
    (case xgy=>k_is)
    (case xg7=>k_is)
    (case xh4=>k_is)
    (case xio=>k_is)
    (case xh9=>k_is)
    (case xil=>k_is)
    (case xbe=>k_is)
    (case xbM=>k_is)
    (case xbn=>k_is)
    (case xbJ=>k_is)
    (case xeF=>k_is)
    (case xfs=>k_is)
    (case xeS=>k_is)
    (case xfp=>k_is)
    (case xh5=>k_is)
    (case xip=>k_is)
    (case xia=>k_is)
    (case xim=>k_is)
    (case xiS=>k_is)
    (case xi3=>k_is)
    (case xiV=>k_is)
    (case xi2=>k_is)
    (case xeG=>k_is)
    (case xft=>k_is)
    (case xeT=>k_is)
    (case xfq=>k_is)
    (case xcn=>k_is)
    (case xcV=>k_is)
    (case xcw=>k_is)
    (case xcS=>k_is)
    (case xcm=>k_is)
    (case xcU=>k_is)
    (case xcv=>k_is)
    (case xcR=>k_is)
    (case xbc=>k_is)
    (case xbK=>k_is)
    (case xbl=>k_is)
    (case xbH=>k_is)
    (case xeE=>k_is)
    (case xfr=>k_is)
    (case xeR=>k_is)
    (case xfo=>k_is)
    (case xds=>k_is)
    (case xd3=>k_is)
    (case xdC=>k_is)
    (case xd0=>k_is)
    (case xdq=>k_is)
    (case xd1=>k_is)
    (case xdA=>k_is)
    (case xdY=>k_is)
    (case xcl=>k_is)
    (case xcT=>k_is)
    (case xcu=>k_is)
    (case xcQ=>k_is)
    (case xh3=>k_is)
    (case xin=>k_is)
    (case xh8=>k_is)
    (case xik=>k_is)
    (case xbd=>k_is)
    (case xbL=>k_is)
    (case xbm=>k_is)
    (case xbI=>k_is)
    (case xdr=>k_is)
    (case xd2=>k_is)
    (case xdB=>k_is)
    (case xdZ=>k_is)
    (case xgi=>k_is)
    (case xg9=>k_is)
    (case xgx=>k_is)
    (case xg6=>k_is)
    (case a_law=>k_is)
    (case l_law=>k_is)
    (case c_law=>k_is)
    (case k_law=>k_is)
    (case xfd=>k_is)
    (case xgT=>k_is)
    (case xdT=>k_is)
    (case xgU=>k_is)
    (case xih=>k_is)
    (case xgS=>k_is)
    (case xii=>k_is)
    (case xf3=>k_is)
    (case xf4=>kernel_rfl)
    (case xf2=>k_is)
    (case xf7=>kernel_rfl)
    (case xf1=>k_is)
    (case xf6=>k_is)
    (case xf0=>k_is)
    (case xf5=>k_is)
    (case xfY=>kernel_rfl)
    (case xfZ=>kernel_rfl)
    (case xac=>kernel_rfl)
    (case xae=>kit_is)
    (case xaa=>kit_is)
    (case xaf=>kit_is)
    (case xah=>kit_is)
    (case xad=>kit_is)
    (case xai=>kit_is)
    (case xff=>kit_is)
    (case xhP=>k_is)
    (case xhQ=>kernel_rfl)
    (case xhO=>k_is)
    (case xhT=>kernel_rfl)
    (case xhN=>k_is)
    (case xhS=>k_is)
    (case xhM=>k_is)
    (case xhR=>k_is)
    (case xhK=>kernel_rfl)
    (case xhL=>kernel_rfl)
    (case xag=>kernel_rfl)
    (case xak=>kit_is)
    (case xab=>kit_is)
    (case xal=>kit_is)
    (case xam=>kit_is)
    (case xaj=>kit_is)
    (case xan=>kit_is)
    (case xgX=>kit_is)
    (case xao=>k_is)
    (case xfe=>k_is)
    (case xgW=>k_is)
    (case xaJ=>k_is)
    (case z_ValueError=>k_is)
    (case z_abs=>k_is)
    (case z_all=>k_is)
    (case z_any=>k_is)
    (case z_bool=>k_is)
    (case z_enumerate=>k_is)
    (case z_int=>k_is)
    (case z_isinstance=>k_is)
    (case z_len=>k_is)
    (case z_list=>k_is)
    (case z_range=>k_is)
    (case z_str=>k_is)
    (case z_sum=>k_is)
    (case z_tuple=>k_is)
    (case is_NoneType_int=>kit_is)
    (case is_bool_int=>kit_is)
    (case is_int_int=>kit_is)
    (case is_str_int=>kit_is)
    (case is_list_int=>kit_is)
    (case is_tuple_int=>kit_is)
    (case is_int_bool=>kit_is)
    (case is_bool_bool=>kit_is)
    (case is_NoneType_list=>kit_is)
    (case is_bool_list=>kit_is)
    (case is_int_list=>kit_is)
    (case is_str_list=>kit_is)
    (case is_list_list=>kit_is)
    (case is_tuple_list=>kit_is)
    (case is_NoneType_tuple=>kit_is)
    (case is_bool_tuple=>kit_is)
    (case is_int_tuple=>kit_is)
    (case is_str_tuple=>kit_is)
    (case is_list_tuple=>kit_is)
    (case is_tuple_tuple=>kit_is)
    (case is_NoneType_str=>kit_is)
    (case is_bool_str=>kit_is)
    (case is_int_str=>kit_is)
    (case is_str_str=>kit_is)
    (case is_list_str=>kit_is)
    (case is_tuple_str=>kit_is)

import PyProof.Rows.All
import Wide.All
import OpenK.AllK
import Wide.FinOn
import Lean
import PyProof.EqAt
import PyProof.EqKinds
import PyProof.TupleCall
import PySem.Challenge.RW_wheelrow_k05_sums
set_option Elab.async false
set_option linter.all false
set_option maxRecDepth 100000
namespace L2
open PySem PySem.Spec PyProof.Rows
abbrev Key:=Sum Int Str
def keyIs:Key → Value → Bool
  | .inl k,v=>Value.isInt k v
  | .inr x,v=>Value.isStrOf x v
def keyH (w:World):Key → Int
  | .inl k=>hashInt k
  | .inr x=>hashStr w x
theorem keyIs_shape:∀ {k:Key} {v:Value},keyIs k v = true → (∃ i t,k = Sum.inl i ∧ v = Value.int i t) ∨ (∃ x t,k = Sum.inr x ∧ v = Value.str x t)
  | .inl i,v,h=>by
    obtain ⟨t,e⟩:=Value.isInt_shape (k:=i) (v:=v) h
    exact .inl ⟨i,t,rfl,e⟩
  | .inr x,v,h=>by
    obtain ⟨t,e⟩:=Value.isStrOf_shape (x:=x) (v:=v) h
    exact .inr ⟨x,t,rfl,e⟩
theorem keyIs_int (i:Int) (t:Tok):keyIs (.inl i) (.int i t) = true:=by simp [keyIs,Value.isInt]
theorem keyIs_str (x:Str) (t:Tok):keyIs (.inr x) (.str x t) = true:=by simp [keyIs,Value.isStrOf]
theorem key_ll (a b:Int):decide ((Sum.inl a:Key) = Sum.inl b) = (a == b):=by
  by_cases e:a = b
  · subst e; simp
  · have h:¬ (Sum.inl a:Key) = Sum.inl b:=fun q=>e (Sum.inl.inj q)
    rw [decide_eq_false h]
    exact (beq_eq_false_iff_ne.mpr e).symm
theorem key_rr (a b:Str):decide ((Sum.inr a:Key) = Sum.inr b) = decide (a = b):=by
  by_cases e:a = b
  · subst e; simp
  · have h:¬ (Sum.inr a:Key) = Sum.inr b:=fun q=>e (Sum.inr.inj q)
    rw [decide_eq_false h,decide_eq_false e]
theorem key_lr (a:Int) (b:Str):decide ((Sum.inl a:Key) = Sum.inr b) = false:=decide_eq_false (fun q=>nomatch q)
theorem key_rl (a:Str) (b:Int):decide ((Sum.inr a:Key) = Sum.inl b) = false:=decide_eq_false (fun q=>nomatch q)
def mixKind (prog:Program) (w:World):PySem.KeyKind prog w Key where
  is:=keyIs
  hash:=keyH w
  inj:=fun v a b ha hb=>by
    rcases keyIs_shape ha with ⟨i,t,rfl,rfl⟩ | ⟨x,t,rfl,rfl⟩
    · rcases keyIs_shape hb with ⟨j,u,rfl,e⟩ | ⟨y,u,rfl,e⟩
      · injection e with e1 _; rw [e1]
      · exact nomatch e
    · rcases keyIs_shape hb with ⟨j,u,rfl,e⟩ | ⟨y,u,rfl,e⟩
      · exact nomatch e
      · injection e with e1 _; rw [e1]
  byValue:=fun k v h=>by
    rcases keyIs_shape h with ⟨i,t,rfl,rfl⟩ | ⟨x,t,rfl,rfl⟩ <;> rfl
  pyHash:=fun hv h=>by
    rcases keyIs_shape hv with ⟨i,t,rfl,rfl⟩ | ⟨x,t,rfl,rfl⟩
    · exact wpAny_pyHash_int h
    · exact wpAny_pyHash_str h
  eqBool:=fun hu hv h=>by
    rcases keyIs_shape hu with ⟨i,t,rfl,rfl⟩ | ⟨x,t,rfl,rfl⟩
    · rcases keyIs_shape hv with ⟨j,u,rfl,rfl⟩ | ⟨y,u,rfl,rfl⟩
      · rw [key_ll] at h; exact wpAny_eqBool_int h
      · rw [key_lr] at h; exact SeqAt.EqAt.int_str i t y u _ _ _ _ h
    · rcases keyIs_shape hv with ⟨j,u,rfl,rfl⟩ | ⟨y,u,rfl,rfl⟩
      · rw [key_rl] at h; exact SeqAt.EqAt.str_int x t j u _ _ _ _ h
      · rw [key_rr] at h; exact wpAny_eqBool_str h
  «strs»:=fun k x t v h=>by
    rcases keyIs_shape h with ⟨i,u,rfl,e⟩ | ⟨y,u,rfl,e⟩
    · exact nomatch e
    · injection e with e1 _
      subst e1
      cases v <;> rfl
theorem mixKind_int (prog:Program) (w:World) (i:Int) (t:Tok):(mixKind prog w).is (.inl i) (.int i t) = true:=keyIs_int i t
theorem mixKind_str (prog:Program) (w:World) (x:Str) (t:Tok):(mixKind prog w).is (.inr x) (.str x t) = true:=keyIs_str x t
end L2
namespace L2
open PySem PySem.Spec PyProof.Rows
inductive V where
  | non | bl (b:Bool) | int (i:Int) | str (x:Str) | byt (b:Array UInt8) | flt (b:UInt64) | ref (a:Addr) | ty (n:String)
  deriving DecidableEq
def RelV:V → Value → Prop
  | .non,u=>u = Value.none
  | .bl b,u=>u = Value.bool b
  | .int i,u=>∃ t,u = Value.int i t
  | .str x,u=>∃ t,u = Value.str x t
  | .byt b,u=>∃ t,u = Value.bytes b t
  | .flt b,u=>∃ t,u = Value.float b t
  | .ref a,u=>u = Value.ref a
  | .ty n,u=>u = Value.type n
abbrev Vals:List V → List Value → Prop:=Paired RelV
theorem Vals.length {xs:List V} {us:List Value} (r:Vals xs us):xs.length = us.length:=Paired.length r
theorem Vals.get:∀ {xs:List V} {us:List Value} {i:Nat} {x:V},Vals xs us → xs[i]? = some x → ∃ u,us[i]? = some u ∧ RelV x u
  | _,_,_,_,.nil,e=>by simp at e
  | _,_,0,_,.cons r _,e=>by simp at e; subst e; exact ⟨_,rfl,r⟩
  | _,_,i + 1,x,.cons _ t,e=>by
    obtain ⟨u,h1,h2⟩:=Vals.get (i:=i) (x:=x) t (by simpa using e)
    exact ⟨u,by simpa using h1,h2⟩
theorem Vals.set {x:V} {u:Value} (r:RelV x u):∀ {xs:List V} {us:List Value} (i:Nat),Vals xs us → Vals (xs.set i x) (us.set i u)
  | _,_,_,.nil=>.nil
  | _,_,0,.cons _ t=>.cons r t
  | _,_,i + 1,.cons q t=>.cons q (Vals.set r i t)
theorem Vals.append:∀ {xs ys:List V} {us ws:List Value},Vals xs us → Vals ys ws → Vals (xs ++ ys) (us ++ ws)
  | _,_,_,_,.nil,s=>s
  | _,_,_,_,.cons r t,s=>.cons r (Vals.append t s)
theorem Vals.take:∀ {xs:List V} {us:List Value} (n:Nat),Vals xs us → Vals (xs.take n) (us.take n)
  | _,_,0,_=>.nil
  | _,_,_ + 1,.nil=>.nil
  | _,_,n + 1,.cons r t=>.cons r (Vals.take n t)
theorem Vals.drop:∀ {xs:List V} {us:List Value} (n:Nat),Vals xs us → Vals (xs.drop n) (us.drop n)
  | _,_,0,r=>r
  | _,_,_ + 1,.nil=>.nil
  | _,_,n + 1,.cons _ t=>Vals.drop n t
theorem Vals.none_of:∀ {xs:List V} {us:List Value} {i:Nat},Vals xs us → xs[i]? = none → us[i]? = none:=fun {xs us i} r e=>by
  have h1:=r.length
  have h2:xs.length ≤ i:=List.getElem?_eq_none_iff.mp e
  exact List.getElem?_eq_none_iff.mpr (by omega)
def RelO:Option V → Option Value → Prop
  | some v,some u=>RelV v u
  | none,none=>True
  | _,_=>False
def KV {κ:Type}:List (κ × V) → List (κ × Value) → Prop:=Paired fun (p:κ × V) (q:κ × Value)=>p.1 = q.1 ∧ RelV p.2 q.2
def kV:Key → V
  | .inl i=>.int i
  | .inr x=>.str x
inductive HO where
    | lst (xs:List V)
    | tup (xs:List V)
    | dK (kvs:List (Key × V)) | dT (kvs:List (List Key × V))
    | set (S:Int → Bool) (n:Nat)
    | ins (C dx:Addr) (fs:List (Str × V))
    | own (x:Addr)
    | xd (fs:List (Str × V))
    | met (f x:Addr)
    | rng (lo hi:Int)
    | frz (o:Obj) (u:HO)
    | tbl (ps:Array Value)
    | ext (φ:Heap → Prop)
abbrev Hp:=Addr → Option HO
def upd (H:Hp) (a:Addr) (o:HO):Hp:=fun b=>if b = a then some o else H b
theorem upd_same {H:Hp} {a:Addr} {o:HO}:upd H a o a = some o:=by unfold upd; rw [if_pos rfl]
theorem upd_ne {H:Hp} {a b:Addr} {o:HO} (h:b ≠ a):upd H a o b = H b:=by unfold upd; rw [if_neg h]
theorem upd_upd {H:Hp} {a:Addr} {o u:HO}:upd (upd H a o) a u = upd H a u:=by
  funext b; unfold upd; split <;> rfl
theorem ne_of {H:Hp} {a b:Addr} {o u:HO} (h:H a = some o) (h':H b = some u) (d:o ≠ u):a ≠ b:=by
  intro e; subst e; rw [h] at h'; exact d (Option.some.inj h')
theorem ne_of_none {H:Hp} {a b:Addr} {o:HO} (h:H a = some o) (h':H b = none):a ≠ b:=by
  intro e; subst e; rw [h] at h'; cases h'
section
variable (P:Program) (w:World)
def ObjOk (H:Hp) (h:Heap) (a:Addr):HO → Prop
  | .lst xs=>xs.length ≤ sizeLine ∧ ∃ (its:List Value) (n:Nat),Vals xs its ∧ h.get? a = some { cls:=.type "list", data:=.seq its.toArray n }
  | .tup xs=>xs.length ≤ sizeLine ∧ ∃ its:List Value,Vals xs its ∧ IsTup h a its.toArray
  | .dK kvs=>kvs.length ≤ sizeLine ∧ (a == sysModules) = false ∧ ∃ vs,KV kvs vs ∧ h.DictOf (mixKind P w) a vs
  | .dT kvs=>kvs.length ≤ sizeLine ∧ (a == sysModules) = false ∧ ∃ xs:List (List Key × Addr × Value),
      Paired (fun (p:List Key × V) (q:List Key × Addr × Value)=>p.1 = q.1 ∧ H q.2.1 = some (.tup (p.1.map kV)) ∧ RelV p.2 q.2.2) kvs xs ∧
      ∃ o es ep,h.get? a = some o ∧ o.ExactDict ∧ o.data = .dict es ep ∧ es.toList = xs.map (entryOfKey (tupleKind (mixKind P w))) ∧ (xs.map (·.1)).Nodup
  | .set S n=>h.SetOf (intKind P w) a S n
  | .ins C dx fs=>H dx = some (.own a) ∧ fs.length ≤ 1000 ∧ dx ≠ a ∧ h.get? a = some (PySem.W.instObj C dx) ∧
      ∃ mA,h.Ns1 dx mA ∧ (∀ f,RelO (fs.lookup f) (mA f)) ∧ PySem.Within mA (fs.map (·.1))
  | .own _=>∃ o,h.get? a = some o
  | .xd fs=>∃ mA,h.Ns1 a mA ∧ ∀ f,RelO (fs.lookup f) (mA f)
  | .rng lo hi=>∃ t u v,h.get? a = some { cls:=.type "range", data:=.fields #[.int lo t,.int hi u,.int 1 v] }
  | .frz o u=>h.get? a = some o ∧ ObjOk H h a u
  | .tbl ps=>h.get? a = some { cls:=.none,data:=.fields ps }
  | .met f x=>h.get? a = some (PySem.W.methodObj (.ref f) (.ref x))
  | .ext φ=>φ h ∧ (∃ o,h.get? a = some o) ∧ ∀ h1 h2:Heap,φ h1 → (∀ o,h1.get? a = some o → h2.get? a = some o) → φ h2
def HOk (H:Hp) (h:Heap):Prop:=∀ a o,H a = some o → ObjOk P w H h a o
end
section
variable {P:Program} {w:World} {H H':Hp} {h h':Heap} {a:Addr} {o:HO}
theorem ObjOk.lt (x:ObjOk P w H h a o):a < h.objs.size:=by
  cases o with
  | lst xs=>obtain ⟨_,_,_,_,e⟩:=x; exact Heap.lt_size e
  | tup xs=>obtain ⟨_,_,_,p⟩:=x; exact p.lt
  | dK kvs=>obtain ⟨_,_,_,_,o,_,_,e,_⟩:=x; exact Heap.lt_size e
  | dT kvs=>obtain ⟨_,_,_,_,o,_,_,e,_⟩:=x; exact Heap.lt_size e
  | set S n=>obtain ⟨o,_,_,_,e,_⟩:=x; exact Heap.lt_size e
  | ins C dx fs=>obtain ⟨_,_,_,e,_⟩:=x; exact Heap.lt_size e
  | own y=>obtain ⟨_,e⟩:=x; exact Heap.lt_size e
  | xd fs=>obtain ⟨_,⟨_,_,_,e,_⟩,_⟩:=x; exact Heap.lt_size e
  | rng lo hi=>obtain ⟨_,_,_,e⟩:=x; exact Heap.lt_size e
  | frz ob u=>obtain ⟨e,_⟩:=x; exact Heap.lt_size e
  | tbl ps=>exact Heap.lt_size (show h.get? a = some _ from x)
  | met f y=>exact Heap.lt_size (show h.get? a = some _ from x)
  | ext φ=>obtain ⟨_,⟨_,e⟩,_⟩:=x; exact Heap.lt_size e
theorem Paired.mapP {α β:Type} {F G:α → β → Prop}:∀ {l₁:List α} {l₂:List β},Paired F l₁ l₂ → (∀ a b,F a b → G a b) → Paired G l₁ l₂
  | _,_,.nil,_=>.nil
  | _,_,.cons r t,f=>.cons (f _ _ r) (Paired.mapP t f)
theorem ObjOk.stay (x:ObjOk P w H h a o) (k:∀ b u,(b = a ∨ H b = some (.own a)) → h.get? b = some u → h'.get? b = some u)
    (ho:∀ b,H b = some (.own a) → H' b = some (.own a)) (ht:∀ b xs,H b = some (.tup xs) → H' b = some (.tup xs)):ObjOk P w H' h' a o:=by
  induction o with
  | lst xs=>obtain ⟨z,its,n,r,e⟩:=x; exact ⟨z,its,n,r,k _ _ (.inl rfl) e⟩
  | tup xs=>obtain ⟨z,its,r,ob,e,c⟩:=x; exact ⟨z,its,r,ob,k _ _ (.inl rfl) e,c⟩
  | dK kvs=>obtain ⟨z,y,vs,r,ob,es,ep,e,c⟩:=x; exact ⟨z,y,vs,r,ob,es,ep,k _ _ (.inl rfl) e,c⟩
  | dT kvs =>
    obtain ⟨z,y,xs,r,ob,es,ep,e,c⟩:=x
    exact ⟨z,y,xs,Paired.mapP r fun p q z=>⟨z.1,ht _ _ z.2.1,z.2.2⟩,ob,es,ep,k _ _ (.inl rfl) e,c⟩
  | set S n=>obtain ⟨ob,es,ep,t,e,c⟩:=x; exact ⟨ob,es,ep,t,k _ _ (.inl rfl) e,c⟩
  | ins C dx fs =>
    obtain ⟨d,z,ne,e,mA,⟨od,es,ep,e2,c⟩,r⟩:=x
    exact ⟨ho _ d,z,ne,k _ _ (.inl rfl) e,mA,⟨od,es,ep,k _ _ (.inr d) e2,c⟩,r⟩
  | own y=>obtain ⟨ob,e⟩:=x; exact ⟨ob,k _ _ (.inl rfl) e⟩
  | xd fs=>obtain ⟨mA,⟨od,es,ep,e,c⟩,r⟩:=x; exact ⟨mA,⟨od,es,ep,k _ _ (.inl rfl) e,c⟩,r⟩
  | rng lo hi=>obtain ⟨t,u,v,e⟩:=x; exact ⟨t,u,v,k _ _ (.inl rfl) e⟩
  | frz ob u ih=>obtain ⟨e,q⟩:=x; exact ⟨k _ _ (.inl rfl) e,ih q⟩
  | tbl ps =>
    have e:h.get? a = some { cls:=.none,data:=.fields ps }:=x
    show h'.get? a = some { cls:=.none,data:=.fields ps }
    exact k a _ (.inl rfl) e
  | met f y =>
    have e:h.get? a = some (PySem.W.methodObj (.ref f) (.ref y)):=x
    show h'.get? a = some (PySem.W.methodObj (.ref f) (.ref y))
    exact k a _ (.inl rfl) e
  | ext φ=>obtain ⟨p,⟨o,e⟩,st⟩:=x; exact ⟨st _ _ p fun o q=>k _ _ (.inl rfl) q,⟨o,k _ _ (.inl rfl) e⟩,st⟩
theorem HOk.lt (x:HOk P w H h) (e:H a = some o):a < h.objs.size:=(x a o e).lt
theorem HOk.fresh (x:HOk P w H h) (e:h.objs.size ≤ a):H a = none:=by
  cases q:H a with
  | none=>rfl
  | some u=>exact absurd (Nat.lt_of_lt_of_le (x.lt q) e) (Nat.lt_irrefl _)
theorem HOk.kept (x:HOk P w H h) (k:∀ b u,h.get? b = some u → h'.get? b = some u):HOk P w H h':=fun a o e =>
  (x a o e).stay (fun b u _ q=>k b u q) (fun _ q=>q) fun _ _ q=>q
theorem HOk.laid (x:HOk P w H h) (k:∀ b u,h.get? b = some u → h'.get? b = some u) (hp:h.objs.size ≤ a) (new:ObjOk P w (upd H a o) h' a o):HOk P w (upd H a o) h':=fun b u e=>by
  have hn:=x.fresh hp
  by_cases hb:b = a
  · subst hb; rw [upd_same] at e; cases e; exact new
  · rw [upd_ne hb] at e
    exact (x b u e).stay (fun c v _ q=>k c v q) (fun c q=>by rw [upd_ne (ne_of_none q hn)]; exact q) fun c xs q=>by rw [upd_ne (ne_of_none q hn)]; exact q
end
def Rd (H:Hp) (a:Addr) (u:HO):Prop:=H a = some u ∨ ∃ o,H a = some (.frz o u)
theorem Rd.of {H:Hp} {a:Addr} {u:HO} (h:H a = some u):Rd H a u:=.inl h
theorem Rd.ok {P:Program} {w:World} {H:Hp} {h:Heap} {a:Addr} {u:HO} (r:Rd H a u) (x:HOk P w H h):ObjOk P w H h a u:=by
  rcases r with r | ⟨o,r⟩
  · exact x a u r
  · obtain ⟨_,q⟩:=x a _ r
    exact q
def Mut:Option HO → Prop
  | some (.lst _)=>True
  | some (.dK _)=>True
  | some (.dT _)=>True
  | some (.set _ _)=>True
  | some (.ins _ _ _)=>True
  | some (.ext _)=>True
  | _=>False
section
variable {P:Program} {w:World} {H:Hp} {h h':Heap} {x e:Addr} {o':HO}
theorem HOk.write (ok:HOk P w H h) (mu:Mut (H x)) (he:e = x ∨ H e = some (.own x)) (k:∀ b u,b ≠ e → h.get? b = some u → h'.get? b = some u) (heo:∃ u,h'.get? e = some u)
    (new:ObjOk P w (upd H x o') h' x o'):HOk P w (upd H x o') h':=fun b u q=>by
  have nown:∀ c y,H c = some (.own y) → c ≠ x:=fun c y r z=>by subst z; rw [r] at mu; exact mu
  have ntup:∀ c xs,H c = some (.tup xs) → c ≠ x:=fun c xs r z=>by subst z; rw [r] at mu; exact mu
  by_cases hb:b = x
  · subst hb; rw [upd_same] at q; cases q; exact new
  · rw [upd_ne hb] at q
    by_cases hbe:b = e
    · have q':H b = some (.own x):=by
        rcases he with z | z
        · exact absurd (hbe.trans z) hb
        · rw [hbe]; exact z
      rw [q] at q'; cases q'
      obtain ⟨v,hv⟩:=heo
      exact ⟨v,by rw [hbe]; exact hv⟩
    · refine (ok b u q).stay (fun c v hc r=>k c v ?_ r) (fun c r=>by rw [upd_ne (nown c b r)]; exact r) fun c xs r=>by rw [upd_ne (ntup c xs r)]; exact r
      rcases hc with rfl | hc
      · exact hbe
      · rintro rfl
        rcases he with z | z
        · exact nown c b hc z
        · rw [hc] at z; cases z; exact hb rfl
end
structure Un (fs ex:List Addr) (H H':Hp) (h h':Heap):Prop where
  keep:∀ b o,h.get? b = some o → H b = none → b ∉ fs → b ∉ ex → h'.get? b = some o
  slot:∀ b o,h.get? b = some o → H b = none → b ∈ fs → b ∉ ex → ∃ sl,h'.get? b = some { o with slots:=sl }
  free:∀ b o,h.get? b = some o → H b = none → b ∉ ex → H' b = none
  there:∀ b o,h.get? b = some o → b ∉ ex → ∃ o',h'.get? b = some o'
  tups:∀ b xs,H b = some (.tup xs) → H' b = some (.tup xs)
  frzs:∀ b o u,H b = some (.frz o u) → H' b = some (.frz o u)
  tbls:∀ b ps,H b = some (.tbl ps) → ∃ more,H' b = some (.tbl (ps ++ more))
section
variable {fs fs' ex ex':List Addr} {H H1 H2:Hp} {h h1 h2 h':Heap} {a x e:Addr} {o:HO}
theorem Un.any (u:Un fs ex H H1 h h1) {b:Addr} {ob:Obj} (q:h.get? b = some ob) (n:H b = none) (hx:b ∉ ex):∃ sl,h1.get? b = some { ob with slots:=sl }:=by
  by_cases hb:b ∈ fs
  · exact u.slot b ob q n hb hx
  · exact ⟨ob.slots,u.keep b ob q n hb hx⟩
theorem Un.trans (a:Un fs ex H H1 h h1) (b:Un fs ex H1 H2 h1 h2):Un fs ex H H2 h h2 where
  keep:=fun c ob q n hc hx=>b.keep c ob (a.keep c ob q n hc hx) (a.free c ob q n hx) hc hx
  slot:=fun c ob q n hc hx=>by
    obtain ⟨sl,e1⟩:=a.slot c ob q n hc hx
    obtain ⟨sl',e2⟩:=b.slot c _ e1 (a.free c ob q n hx) hc hx
    exact ⟨sl',e2⟩
  free:=fun c ob q n hx=>by
    obtain ⟨o',e1⟩:=a.there c ob q hx
    exact b.free c o' e1 (a.free c ob q n hx) hx
  there:=fun c ob q hx=>by
    obtain ⟨o',e1⟩:=a.there c ob q hx
    exact b.there c o' e1 hx
  tups:=fun c xs q=>b.tups c xs (a.tups c xs q)
  frzs:=fun c ob xs q=>b.frzs c ob xs (a.frzs c ob xs q)
  tbls:=fun c ps q=>by
    obtain ⟨m1,e1⟩:=a.tbls c ps q
    obtain ⟨m2,e2⟩:=b.tbls c _ e1
    exact ⟨m1 ++ m2,by rw [e2,Array.append_assoc]⟩
theorem Un.kept (k:∀ b u,h.get? b = some u → h'.get? b = some u):Un fs ex H H h h' :=
  ⟨fun b ob q _ _ _=>k b ob q,fun b ob q _ _ _=>⟨ob.slots,k b ob q⟩,fun _ _ _ n _=>n,fun b ob q _=>⟨ob,k b ob q⟩,fun _ _ q=>q,fun _ _ _ q=>q,fun _ ps q=>⟨#[],by rw [q]; simp⟩⟩
theorem Un.refl:Un fs ex H H h h:=Un.kept fun _ _ q=>q
theorem Un.laid (k:∀ b u,h.get? b = some u → h'.get? b = some u) (hp:h.objs.size ≤ a) (hn:H a = none):Un fs ex H (upd H a o) h h' where
  keep:=fun b u q _ _ _=>k b u q
  slot:=fun b u q _ _ _=>⟨u.slots,k b u q⟩
  free:=fun b u q n _=>by rw [upd_ne (Nat.ne_of_lt (Nat.lt_of_lt_of_le (Heap.lt_size q) hp))]; exact n
  there:=fun b u q _=>⟨u,k b u q⟩
  tups:=fun b xs q=>by rw [upd_ne (ne_of_none q hn)]; exact q
  frzs:=fun b u xs q=>by rw [upd_ne (ne_of_none q hn)]; exact q
  tbls:=fun b ps q=>⟨#[],by rw [upd_ne (ne_of_none q hn),q]; simp⟩
theorem Un.write (mu:Mut (H x)) (he:e = x ∨ H e = some (.own x)) (k:∀ b u,b ≠ e → h.get? b = some u → h'.get? b = some u) (heo:∃ u,h'.get? e = some u):Un fs ex H (upd H x o) h h':=by
  have hx:∀ b,H b = none → b ≠ x:=fun b n z=>by subst z; rw [n] at mu; exact mu
  have hb:∀ b,H b = none → b ≠ e:=fun b n z=>by
    subst z
    rcases he with r | r
    · exact hx b n r
    · rw [n] at r; cases r
  have hm:∀ b u,H b = some u → ¬ Mut (some u) → b ≠ x:=fun b u q nm z=>by subst z; rw [q] at mu; exact nm mu
  refine ⟨fun b u q n _ _=>k b u (hb b n) q,fun b u q n _ _=>⟨u.slots,k b u (hb b n) q⟩,fun b u q n _=>by rw [upd_ne (hx b n)]; exact n,fun b u q _=>?_,
    fun b xs q=>by rw [upd_ne (hm b _ q fun z=>z)]; exact q,fun b u xs q=>by rw [upd_ne (hm b _ q fun z=>z)]; exact q,fun b ps q=>⟨#[],by rw [upd_ne (hm b _ q fun z=>z),q]; simp⟩⟩
  by_cases hbe:b = e
  · subst hbe; exact heo
  · exact ⟨u,k b u hbe q⟩
theorem Un.mono (u:Un fs ex H H1 h h1) (hs:∀ b ∈ fs,b ∈ fs') (hx:∀ b ∈ ex,b ∈ ex'):Un fs' ex' H H1 h h1 :=
  ⟨fun b ob q n hb he=>u.keep b ob q n (fun z=>hb (hs b z)) fun z=>he (hx b z),fun _ _ q n _ he=>u.any q n fun z=>he (hx _ z),fun b ob q n he=>u.free b ob q n fun z=>he (hx b z),fun b ob q he=>u.there b ob q fun z=>he (hx b z),u.tups,u.frzs,u.tbls⟩
end
def trk (h:Heap) (H:Hp):List Addr:=(List.range h.objs.size).filter fun a=>(H a).isSome
def hidT (h:Heap) (H:Hp):Heap:=PySem.W.hideAll h (trk h H)
theorem hidT_size (h:Heap) (H:Hp):(hidT h H).objs.size = h.objs.size:=PySem.W.hideAll_size _ _
theorem hidT_get {h:Heap} {H:Hp} {b:Addr} {o:Obj} (e:h.get? b = some o) (n:H b = none):(hidT h H).get? b = some o :=
  PySem.W.hideAll_get _ e fun hm=>by
    have q:(H b).isSome = true:=(List.mem_filter.mp hm).2
    rw [n] at q; simp at q
theorem of_hidT {h:Heap} {H:Hp} {b:Addr} {o:Obj} (e:(hidT h H).get? b = some o):h.get? b = some o ∧ H b = none:=by
  have e':h.get? b = some o:=PySem.W.of_hideAll (trk h H) e
  refine ⟨e',?_⟩
  cases q:H b with
  | none=>rfl
  | some x =>
    have hm:b ∈ trk h H:=List.mem_filter.mpr ⟨List.mem_range.mpr (Heap.lt_size e'),by simp [q]⟩
    have z:(hidT h H).get? b = none:=PySem.W.hideAll_none (trk h H) hm
    rw [z] at e; cases e
def allNews (g h:Heap) (L:Addr):List (Addr × Obj):=(List.range h.objs.size).filterMap fun a=>if a = L ∨ (g.get? a).isSome = true then none else (h.get? a).map fun o=>(a,o)
theorem mem_allNews {g h:Heap} {L a:Addr} {o:Obj} (h1:a ≠ L) (h2:g.get? a = none) (h3:h.get? a = some o):(a,o) ∈ allNews g h L :=
  List.mem_filterMap.mpr ⟨a,List.mem_range.mpr (Heap.lt_size h3),by simp [h1,h2,h3]⟩
theorem of_mem_allNews {g h:Heap} {L:Addr} {p:Addr × Obj} (hp:p ∈ allNews g h L):p.1 ≠ L ∧ g.get? p.1 = none ∧ h.get? p.1 = some p.2:=by
  obtain ⟨b,_,e⟩:=List.mem_filterMap.mp hp
  split at e
  · cases e
  · rename_i hn
    cases q:h.get? b with
    | none=>rw [q] at e; simp at e
    | some u =>
      rw [q] at e
      simp only [Option.map_some,Option.some.injEq] at e
      subst e
      refine ⟨fun z=>hn (.inl z),?_,q⟩
      show g.get? b = none
      cases r:g.get? b with
      | none=>rfl
      | some v=>exact (hn (.inr (by simp [r]))).elim
def rest (g h:Heap) (L d:Addr):List (Addr × Obj):=(allNews g h L).filter fun p=>decide (p.1 ≠ d)
theorem news_all {g h:Heap} {L:Addr}:News g L h (allNews g h L):=fun p hp=>let ⟨a,b,c⟩:=of_mem_allNews hp; ⟨c,a,b⟩
end L2
namespace L2
open PySem PySem.Spec PyProof.Rows
structure Mod (K:PySem.W.Frag) (mg:Str → Option Value) (base:Heap):Prop where
  kin:K.In base
  glob:base.Ns mainGlobals mg
  blt:∃ mb,base.Ns builtinsNs mb ∧ ∀ x:Str,x ≠ "__name__" → mb x = bootBuiltins x
  nolimit:base.NoLimit
structure Cx where
  prog:Program
  w:World
  K:PySem.W.Frag
  mg:Str → Option Value
  base:Heap
  A:Around
  N:List Str
  s₀:Shared
  H₀:Hp
  env:Env
  outer:List Env
  stack:List Env
  ex:List Addr
  fn:Str → Bool
  calm:Bool
  pn:List (Addr × Obj)
  xe:Value → Shared → Prop
def frs (l:List Env):List Addr:=l.filterMap (·.frame)
abbrev Cx.fs (X:Cx):List Addr:=frs X.outer
def Vis (sc:Scope) (x:Str):Prop:=sc.names.lookup x = some .local ∨ sc.names.lookup x = some .cell ∨ sc.names.lookup x = some .free
def Loc (sc:Scope) (x:Str):Prop:=sc.names.lookup x = some .local ∨ sc.names.lookup x = some .cell
def Look (env:Env) (h:Heap) (m:Str → Option Value) (x:Str) (u:Value):Prop :=
  (env.kindOf x = some .local ∧ m x = some u) ∨ ((env.kindOf x = some .cell ∨ env.kindOf x = some .free) ∧ ∃ c,env.cells.lookup x = some c ∧ h.IsCell c (some u))
structure Cx.Ok (X:Cx):Prop where
  mod:Mod X.K X.mg X.base
  kind:X.env.scope.kind = .function
  glob:X.env.globals = mainGlobals
  blt:X.env.builtins = builtinsNs
  above:X.s₀.heap.objs.size ≤ X.env.locals
  inj:∀ x y c,X.env.cells.lookup x = some c → X.env.cells.lookup y = some c → x = y
  has:∀ x,(X.env.kindOf x = some .cell ∨ X.env.kindOf x = some .free) → ∃ c,X.env.cells.lookup x = some c
  cab:∀ x c,X.fn x = true → X.env.cells.lookup x = some c → X.s₀.heap.objs.size ≤ c
  hd:X.calm = true → X.A.handled = none
  frames:X.A.frames = some X.stack
  stk:X.stack = X.outer ∨ (X.stack = X.env :: X.outer ∧ X.env.frame = some X.env.locals)
  exf:∀ b ∈ X.ex,b ≠ X.env.locals ∧ ∀ x c,X.env.cells.lookup x = some c → c ≠ b
  bs:∀ b o,X.base.get? b = some o → X.s₀.heap.get? b = some o ∧ X.H₀ b = none
  bsz:X.base.objs.size ≤ X.s₀.heap.objs.size
  noex:∀ b o,X.base.get? b = some o → b ∉ X.ex
  exfs:∀ b ∈ X.ex,b ∉ X.fs
  funs:X.s₀.heap.FunFrames X.base X.outer
  frf:∀ b ∈ X.fs,X.H₀ b = none
structure Inv (X:Cx) (pins:List (Addr × Obj)) (σ:List (Option V)) (H:Hp) (s:Shared):Prop where
  ok:X.Ok
  os:s.os = X.s₀.os
  bare:AllBare s.gens
  base:Un X.fs X.ex X.H₀ H X.s₀.heap s.heap
  loc:∃ m,s.heap.Ns X.env.locals m ∧ ∀ (i:Nat) (x:Str) (v:V),X.N[i]? = some x → σ[i]? = some (some v) → Vis X.env.scope x → ∃ u,RelV v u ∧ Look X.env s.heap m x u
  cell:∀ x c,X.env.cells.lookup x = some c → ∃ v,s.heap.IsCell c v
  free:H X.env.locals = none
  freeC:∀ x c,X.env.cells.lookup x = some c → H c = none
  pin:∀ p ∈ X.pn ++ pins,s.heap.get? p.1 = some p.2 ∧ H p.1 = none ∧ p.1 ≠ X.env.locals ∧ p.1 ∉ X.fs ∧ ∀ v,p.2.data ≠ .cell v
  hok:HOk X.prog X.w H s.heap
  len:σ.length = X.N.length
section
variable {X:Cx} {pins:List (Addr × Obj)} {σ:List (Option V)} {H H':Hp} {s:Shared} {h':Heap}
theorem Cx.Ok.nofr (ok:X.Ok) {b:Addr} {o:Obj} (e:X.base.get? b = some o):b ∉ X.fs:=fun hb=>by
  have:=(ok.funs.mem hb).1
  rw [e] at this; cases this
theorem Inv.bs (I:Inv X pins σ H s):∀ b o,X.base.get? b = some o → s.heap.get? b = some o ∧ H b = none:=fun b o e =>
  ⟨I.base.keep b o (I.ok.bs b o e).1 (I.ok.bs b o e).2 (I.ok.nofr e) (I.ok.noex b o e),I.base.free b o (I.ok.bs b o e).1 (I.ok.bs b o e).2 (I.ok.noex b o e)⟩
theorem Inv.bk (I:Inv X pins σ H s):∀ b o,X.base.get? b = some o → s.heap.get? b = some o:=fun b o e=>(I.bs b o e).1
theorem Inv.mod (I:Inv X pins σ H s):Mod X.K X.mg X.base:=I.ok.mod
theorem Inv.kIn (I:Inv X pins σ H s):X.K.In s.heap:=I.ok.mod.kin.keeps I.bk
theorem Inv.nolimit (I:Inv X pins σ H s):s.heap.NoLimit:=I.ok.mod.nolimit.keeps I.bk
theorem Inv.fr (I:Inv X pins σ H s):∃ m,Fr X.base X.env.locals s.heap m :=
  let ⟨m,hn,_⟩:=I.loc
  ⟨m,hn,I.bk,Nat.le_trans I.ok.bsz I.ok.above⟩
theorem Inv.lt (I:Inv X pins σ H s):X.env.locals < s.heap.objs.size:=let ⟨_,hn,_⟩:=I.loc; hn.lt
theorem Inv.sz (I:Inv X pins σ H s):X.s₀.heap.objs.size ≤ s.heap.objs.size:=Nat.le_trans I.ok.above (Nat.le_of_lt I.lt)
theorem Inv.nofs (I:Inv X pins σ H s) {a:Addr} (h:s.heap.objs.size ≤ a):a ∉ X.fs:=fun hb=>by
  obtain ⟨_,o,ho,_⟩:=I.ok.funs.mem hb
  exact absurd (Nat.lt_of_lt_of_le (Heap.lt_size ho) (Nat.le_trans I.sz h)) (Nat.lt_irrefl _)
theorem Inv.cne (I:Inv X pins σ H s):∀ x c,X.env.cells.lookup x = some c → c ≠ X.env.locals:=fun x c e z=>by
  obtain ⟨v,o,ho,hd⟩:=I.cell x c e
  obtain ⟨m,⟨o',es,ep,ho',hd',_⟩,_⟩:=I.loc
  rw [z,ho'] at ho; cases ho; rw [hd'] at hd; cases hd
theorem Inv.funs (I:Inv X pins σ H s):s.heap.FunFrames X.base X.outer:=by
  have all:∀ (l:List Env),(∀ b ∈ frs l,b ∈ X.fs) → X.s₀.heap.FunFrames X.base l → s.heap.FunFrames X.base l:=by
    intro l
    induction l with
    | nil=>intro _ _; trivial
    | cons env r ih =>
      intro hs hl
      obtain ⟨hk,⟨L,o,hf,hn,ho,hd⟩,hr⟩:=hl
      have hL:L ∈ X.fs:=hs L (by unfold frs; rw [List.filterMap_cons,hf]; exact List.mem_cons_self)
      obtain ⟨sl,e⟩:=I.base.slot L o ho (I.ok.frf L hL) hL fun z=>I.ok.exfs L z hL
      exact ⟨hk,⟨L,_,hf,hn,e,hd⟩,ih (fun b hb=>hs b (by unfold frs; rw [List.filterMap_cons,hf]; exact List.mem_cons_of_mem _ hb)) hr⟩
  exact all X.outer (fun _ hb=>hb) I.ok.funs
theorem Inv.stack (I:Inv X pins σ H s):s.heap.FunFrames X.base X.stack:=by
  rcases I.ok.stk with e | ⟨e,hf⟩
  · rw [e]; exact I.funs
  · rw [e]
    obtain ⟨m,hn,_⟩:=I.loc
    refine .cons (by rw [I.ok.kind]; decide) hf hn ?_ I.funs
    exact Heap.get?_none_of_le (Nat.le_trans I.ok.bsz I.ok.above)
theorem Inv.stkSub (I:Inv X pins σ H s):∀ b ∈ frs X.stack,b ∈ X.env.locals :: X.fs:=fun b hb=>by
  rcases I.ok.stk with e | ⟨e,hf⟩
  · rw [e] at hb; exact List.mem_cons_of_mem _ hb
  · rw [e] at hb
    unfold frs at hb
    rw [List.filterMap_cons,hf] at hb
    exact hb
theorem Inv.stkFree (I:Inv X pins σ H s):∀ b ∈ frs X.stack,H b = none:=fun b hb=>by
  rcases List.mem_cons.mp (I.stkSub b hb) with e | hb
  · rw [e]; exact I.free
  · obtain ⟨_,o,ho,_⟩:=I.ok.funs.mem hb
    exact I.base.free b o ho (I.ok.frf b hb) fun z=>I.ok.exfs b z hb
theorem Inv.step {g':Array GenState} {t':Nat} {d':Drawn} {ch:List Addr} (I:Inv X pins σ H s)
    (hch:∀ b ∈ ch,(b ∈ X.ex ∨ X.s₀.heap.objs.size ≤ b) ∧ b ≠ X.env.locals ∧ (∀ x c,X.env.cells.lookup x = some c → c ≠ b) ∧ ∀ p ∈ X.pn ++ pins,p.1 ≠ b)
    (keep:∀ b o,b ≠ X.env.locals → b ∉ X.fs → b ∉ ch → s.heap.get? b = some o → H b = none → h'.get? b = some o)
    (slot:∀ b o,b ≠ X.env.locals → b ∈ X.fs → b ∉ ch → s.heap.get? b = some o → H b = none → ∃ sl,h'.get? b = some { o with slots:=sl }) (free:∀ b o,b ∉ ch → s.heap.get? b = some o → H b = none → H' b = none)
    (there:∀ b o,b ∉ ch → s.heap.get? b = some o → ∃ o',h'.get? b = some o')
    (tups:∀ b xs,H b = some (.tup xs) → H' b = some (.tup xs)) (frzs:∀ b o u,H b = some (.frz o u) → H' b = some (.frz o u)) (tbls:∀ b ps,H b = some (.tbl ps) → ∃ more,H' b = some (.tbl (ps ++ more)))
    (ns:∀ m,s.heap.Ns X.env.locals m → h'.Ns X.env.locals m) (hok:HOk X.prog X.w H' h') (hg:AllBare g') :
    Inv X pins σ H' { s with heap:=h',gens:=g',drawn:=d',toks:=t' }:=by
  have neL:∀ b o,X.s₀.heap.get? b = some o → b ≠ X.env.locals:=fun b o e=>Nat.ne_of_lt (Nat.lt_of_lt_of_le (Heap.lt_size e) I.ok.above)
  have neC:∀ b o,X.s₀.heap.get? b = some o → b ∉ X.ex → b ∉ ch:=fun b o e hx hb=>by
    rcases (hch b hb).1 with z | z
    · exact hx z
    · exact absurd (Nat.lt_of_lt_of_le (Heap.lt_size e) z) (Nat.lt_irrefl _)
  have cellK:∀ x c,X.env.cells.lookup x = some c → ∀ v,s.heap.IsCell c v → h'.IsCell c v:=fun x c e v ⟨o,ho,hd⟩=>by
    have nch:c ∉ ch:=fun z=>(hch c z).2.2.1 x c e rfl
    by_cases hc:c ∈ X.fs
    · obtain ⟨sl,q⟩:=slot c o (I.cne x c e) hc nch ho (I.freeC x c e)
      exact ⟨_,q,hd⟩
    · exact ⟨o,keep c o (I.cne x c e) hc nch ho (I.freeC x c e),hd⟩
  refine ⟨I.ok,I.os,hg,⟨fun b o e n hb hx=>?_,fun b o e n hb hx=>?_,fun b o e n hx=>?_,fun b o e hx=>?_,fun b xs e=>tups b xs (I.base.tups b xs e),fun b o xs e=>frzs b o xs (I.base.frzs b o xs e),fun b ps e=>?_⟩,?_,fun x c e=>?_,?_,fun x c e=>?_,fun p hp=>?_,hok,I.len⟩
  · exact keep b o (neL b o e) hb (neC b o e hx) (I.base.keep b o e n hb hx) (I.base.free b o e n hx)
  · obtain ⟨sl,e1⟩:=I.base.slot b o e n hb hx
    obtain ⟨sl',e2⟩:=slot b _ (neL b o e) hb (neC b o e hx) e1 (I.base.free b o e n hx)
    exact ⟨sl',e2⟩
  · obtain ⟨o',e1⟩:=I.base.there b o e hx
    exact free b o' (neC b o e hx) e1 (I.base.free b o e n hx)
  · obtain ⟨o',e1⟩:=I.base.there b o e hx
    exact there b o' (neC b o e hx) e1
  · obtain ⟨m1,e1⟩:=I.base.tbls b ps e
    obtain ⟨m2,e2⟩:=tbls b _ e1
    exact ⟨m1 ++ m2,by rw [e2,Array.append_assoc]⟩
  · obtain ⟨m,hn,hl⟩:=I.loc
    refine ⟨m,ns m hn,fun i x v e1 e2 e3=>?_⟩
    obtain ⟨u,r,l⟩:=hl i x v e1 e2 e3
    refine ⟨u,r,?_⟩
    rcases l with l | ⟨k,c,e,z⟩
    · exact .inl l
    · exact .inr ⟨k,c,e,cellK x c e _ z⟩
  · obtain ⟨v,z⟩:=I.cell x c e
    exact ⟨v,cellK x c e v z⟩
  · obtain ⟨m,⟨o,_,_,ho,_⟩,_⟩:=I.loc
    exact free _ o (fun z=>(hch _ z).2.1 rfl) ho I.free
  · obtain ⟨v,o,ho,hd⟩:=I.cell x c e
    exact free c o (fun z=>(hch c z).2.2.1 x c e rfl) ho (I.freeC x c e)
  · obtain ⟨e,n,ne,nf,d⟩:=I.pin p hp
    have nch:p.1 ∉ ch:=fun z=>(hch p.1 z).2.2.2 p hp rfl
    exact ⟨keep p.1 p.2 ne nf nch e n,free p.1 p.2 nch e n,ne,nf,d⟩
theorem Inv.un {t':Nat} (I:Inv X pins σ H s) (u:Un X.fs [] H H' s.heap h') (hok:HOk X.prog X.w H' h'):Inv X pins σ H' { s with heap:=h',toks:=t' }:=by
  obtain ⟨m,⟨o,es,ep,ho,r⟩,_⟩:=id I.loc
  obtain ⟨sl,hL⟩:=u.any ho I.free (by simp)
  exact I.step (g':=s.gens) (d':=s.drawn) (ch:=[]) (fun _ z=>nomatch z) (fun b o _ hb _ e n=>u.keep b o e n hb (by simp)) (fun b o _ hb _ e n=>u.slot b o e n hb (by simp)) (fun b o _ e n=>u.free b o e n (by simp)) (fun b o _ e=>u.there b o e (by simp)) u.tups u.frzs u.tbls (fun m' hm=>by
    obtain ⟨o',es',ep',ho',r'⟩:=hm
    rw [ho] at ho'; cases ho'
    exact ⟨_,es',ep',hL,r'⟩) hok I.bare
theorem Inv.call {g':Array GenState} {t':Nat} {d':Drawn} {ch:List Addr} (I:Inv X pins σ H s) (u:Un (frs X.stack) ch H H' s.heap h') (hok:HOk X.prog X.w H' h') (hg:AllBare g')
    (hch:∀ b ∈ ch,(b ∈ X.ex ∨ X.s₀.heap.objs.size ≤ b) ∧ b ≠ X.env.locals ∧ (∀ x c,X.env.cells.lookup x = some c → c ≠ b) ∧ ∀ p ∈ X.pn ++ pins,p.1 ≠ b) :
    Inv X pins σ H' { s with heap:=h',gens:=g',drawn:=d',toks:=t' }:=by
  obtain ⟨m,⟨o,es,ep,ho,r⟩,_⟩:=id I.loc
  obtain ⟨sl,hL⟩:=u.any ho I.free fun z=>(hch _ z).2.1 rfl
  exact I.step (ch:=ch) hch (fun b o hL hb hc e n=>u.keep b o e n (fun z=>(List.mem_cons.mp (I.stkSub b z)).elim hL hb) hc) (fun b o _ _ hc e n=>u.any e n hc) (fun b o hc e n=>u.free b o e n hc) (fun b o hc e=>u.there b o e hc) u.tups u.frzs u.tbls (fun m' hm=>by
    obtain ⟨o',es',ep',ho',r'⟩:=hm
    rw [ho] at ho'; cases ho'
    exact ⟨_,es',ep',hL,r'⟩) hok hg
theorem Inv.turned {t':Nat} {it:Addr} (I:Inv X pins σ H s) (k:∀ b o,b ≠ it → s.heap.get? b = some o → h'.get? b = some o) (hn:H it = none) (hL:it ≠ X.env.locals)
    (h1:it ∈ X.ex ∨ X.s₀.heap.objs.size ≤ it) (h2:∀ x c,X.env.cells.lookup x = some c → c ≠ it) (h3:∀ p ∈ X.pn ++ pins,p.1 ≠ it):Inv X pins σ H { s with heap:=h',toks:=t' }:=by
  have nit:∀ b u,H b = some u → b ≠ it:=fun b u e z=>by rw [z,hn] at e; cases e
  refine I.step (g':=s.gens) (d':=s.drawn) (ch:=[it]) (fun b hb=>?_) (fun b o _ _ hc e _=>k b o (fun z=>hc (by simp [z])) e) (fun b o _ _ hc e _=>⟨o.slots,k b o (fun z=>hc (by simp [z])) e⟩) (fun _ _ _ _ n=>n)
    (fun b o hc e=>⟨o,k b o (fun z=>hc (by simp [z])) e⟩) (fun _ _ e=>e) (fun _ _ _ e=>e) (fun b ps e=>⟨#[],by rw [e]; simp⟩) (fun m hm=>?_) (fun b u e=>?_) I.bare
  · have e:b = it:=by simpa using hb
    subst e
    exact ⟨h1,hL,h2,h3⟩
  · obtain ⟨o,es,ep,ho,r⟩:=hm
    exact ⟨o,es,ep,k _ o (Ne.symm hL) ho,r⟩
  · refine (I.hok b u e).stay (fun c v hc q=>k c v ?_ q) (fun _ q=>q) fun _ _ q=>q
    rcases hc with z | z
    · rw [z]; exact nit b u e
    · exact nit c _ z
theorem Inv.tok (I:Inv X pins σ H s) (t:Nat):Inv X pins σ H { s with toks:=t }:=I.un (h':=s.heap) (t':=t) Un.refl I.hok
theorem Inv.kept {t':Nat} (I:Inv X pins σ H s) (k:∀ b u,s.heap.get? b = some u → h'.get? b = some u):Inv X pins σ H { s with heap:=h',toks:=t' }:=I.un (Un.kept k) (I.hok.kept k)
theorem Inv.laid {a:Addr} {o:HO} {t':Nat} (I:Inv X pins σ H s) (k:∀ b u,s.heap.get? b = some u → h'.get? b = some u) (hp:s.heap.objs.size ≤ a) (new:ObjOk X.prog X.w (upd H a o) h' a o) :
    Inv X pins σ (upd H a o) { s with heap:=h',toks:=t' }:=I.un (Un.laid k hp (I.hok.fresh hp)) (I.hok.laid k hp new)
theorem Inv.write {x e:Addr} {o:HO} {t':Nat} (I:Inv X pins σ H s) (mu:Mut (H x)) (he:e = x ∨ H e = some (.own x)) (k:∀ b u,b ≠ e → s.heap.get? b = some u → h'.get? b = some u) (heo:∃ u,h'.get? e = some u)
    (new:ObjOk X.prog X.w (upd H x o) h' x o):Inv X pins σ (upd H x o) { s with heap:=h',toks:=t' }:=I.un (Un.write mu he k heo) (I.hok.write mu he k heo new)
theorem Inv.weak {σ':List (Option V)} (I:Inv X pins σ H s) (hl:σ'.length = σ.length) (w:∀ (i:Nat) v,σ'[i]? = some (some v) → σ[i]? = some (some v)):Inv X pins σ' H s :=
  ⟨I.ok,I.os,I.bare,I.base,let ⟨m,hn,hl'⟩:=I.loc; ⟨m,hn,fun i x v e1 e2 e3=>hl' i x v e1 (w i v e2) e3⟩,I.cell,I.free,I.freeC,I.pin,I.hok,hl.trans I.len⟩
theorem Inv.pins_of {pins':List (Addr × Obj)} (I:Inv X pins σ H s) (h:∀ p ∈ pins',s.heap.get? p.1 = some p.2 ∧ H p.1 = none ∧ p.1 ≠ X.env.locals ∧ p.1 ∉ X.fs ∧ ∀ v,p.2.data ≠ .cell v):Inv X pins' σ H s :=
  ⟨I.ok,I.os,I.bare,I.base,I.loc,I.cell,I.free,I.freeC,fun p hp=>(List.mem_append.mp hp).elim (fun z=>I.pin p (List.mem_append_left _ z)) (h p),I.hok,I.len⟩
theorem nodup_ix {N:List Str} (hN:N.Nodup) {i j:Nat} {x:Str} (a:N[i]? = some x) (b:N[j]? = some x):i = j:=by
  obtain ⟨h1,e1⟩:=List.getElem?_eq_some_iff.mp a
  obtain ⟨h2,e2⟩:=List.getElem?_eq_some_iff.mp b
  exact (List.getElem_inj hN).mp (e1.trans e2.symm)
theorem store_ok2 {M:Model} {A:Around} {E:Value → Shared → Prop} {i:Nat} {x:Str} {v:V} {u:Value} {Q:Unit → Shared → Prop} (I:Inv X pins σ H s) (hN:X.N.Nodup) (hi:X.N[i]? = some x) (hx:Loc X.env.scope x) (r:RelV v u)
    (h:∀ s',Inv X pins (σ.set i (some v)) H s' → (∃ a,Heap.SameBut a s.heap s'.heap ∧ (a = X.env.locals ∨ X.env.cells.lookup x = some a)) → Q () s') (hf:X.fn x = true ∨ X.env.scope.names.lookup x = some .local:=by first | exact .inl rfl | exact .inr rfl | assumption):wpAny M A (storeName X.env x u) Q E s:=by
  obtain ⟨m,hn,hl⟩:=id I.loc
  have hcls:(X.env.scope.kind == .class || (X.env.scope.kind == .module && X.env.locals != X.env.globals)) = false:=by rw [I.ok.kind]; rfl
  have hiσ:i < σ.length:=by rw [I.len]; exact (List.getElem?_eq_some_iff.mp hi).1
  have cne:=I.cne
  have tracked:∀ {a:Addr} {h':Heap},(∃ o,s.heap.get? a = some o ∧ H a = none) → Heap.SameBut a s.heap h' → HOk X.prog X.w H h':=fun {a h'} ha hs b ob e=>by
    obtain ⟨_,_,hfree⟩:=ha
    refine (I.hok b ob e).stay (fun c w' hc q=>(hs.2 c ?_).trans q) (fun _ q=>q) fun _ _ q=>q
    rintro rfl
    rcases hc with rfl | hc
    · rw [hfree] at e; cases e
    · rw [hfree] at hc; cases hc
  rcases hx with hk | hk
  · refine wpAny_storeName_local hk hn (fun h' hn' hs=>?_) hcls
    obtain ⟨oL,_,_,hoL,_⟩:=id hn
    refine h _ ⟨I.ok,I.os,I.bare,⟨fun b o e n hb hx=>?_,fun b o e n hb hx=>?_,I.base.free,fun b o e hx=>?_,I.base.tups,I.base.frzs,I.base.tbls⟩,⟨_,hn',fun j y v' e1 e2 e3=>?_⟩,fun y c e=>?_,I.free,I.freeC,fun p hp=>?_,tracked ⟨oL,hoL,I.free⟩ hs,by simpa using I.len⟩ ⟨_,hs,.inl rfl⟩
    · exact (hs.2 b (Nat.ne_of_lt (Nat.lt_of_lt_of_le (Heap.lt_size e) I.ok.above))).trans (I.base.keep b o e n hb hx)
    · obtain ⟨sl,e1⟩:=I.base.slot b o e n hb hx
      exact ⟨sl,(hs.2 b (Nat.ne_of_lt (Nat.lt_of_lt_of_le (Heap.lt_size e) I.ok.above))).trans e1⟩
    · obtain ⟨o',e1⟩:=I.base.there b o e hx
      exact ⟨o',(hs.2 b (Nat.ne_of_lt (Nat.lt_of_lt_of_le (Heap.lt_size e) I.ok.above))).trans e1⟩
    · by_cases hj:j = i
      · subst hj
        rw [hi] at e1; cases e1
        rw [List.getElem?_set_self hiσ] at e2
        cases e2
        exact ⟨u,r,.inl ⟨hk,by simp⟩⟩
      · rw [List.getElem?_set_ne (Ne.symm hj)] at e2
        obtain ⟨u',r',q⟩:=hl j y v' e1 e2 e3
        refine ⟨u',r',?_⟩
        rcases q with ⟨k,e⟩ | ⟨k,c,e,z⟩
        · refine .inl ⟨k,?_⟩
          have:y ≠ x:=fun e=>hj (nodup_ix hN e1 (e ▸ hi))
          simp [this,e]
        · exact .inr ⟨k,c,e,z.sameBut hs (cne y c e)⟩
    · obtain ⟨w',z⟩:=I.cell y c e
      exact ⟨w',z.sameBut hs (cne y c e)⟩
    · obtain ⟨e,n,ne,nf,d⟩:=I.pin p hp
      exact ⟨(hs.2 p.1 ne).trans e,n,ne,nf,d⟩
  · have hfn:X.fn x = true:=by
      rcases hf with z | z
      · exact z
      · rw [z] at hk; cases hk
    obtain ⟨c,hc⟩:=I.ok.has x (.inl hk)
    obtain ⟨w',z⟩:=I.cell x c hc
    refine wpAny_storeName_cell I.ok.kind hk hc z (fun h' hc' hs=>?_)
    obtain ⟨oc,hoc,hocd⟩:=id z
    refine h { s with heap:=h' } ⟨I.ok,I.os,I.bare,⟨fun b o e n hb hx=>?_,fun b o e n hb hx=>?_,I.base.free,fun b o e hx=>?_,I.base.tups,I.base.frzs,I.base.tbls⟩,⟨m,hn.sameBut hs (Ne.symm (cne x c hc)),fun j y v' e1 e2 e3=>?_⟩,fun y c' e=>?_,I.free,I.freeC,fun p hp=>?_,tracked ⟨oc,hoc,I.freeC x c hc⟩ hs,by simpa using I.len⟩ ⟨c,hs,.inr hc⟩
    · exact (hs.2 b (Nat.ne_of_lt (Nat.lt_of_lt_of_le (Heap.lt_size e) (I.ok.cab x c hfn hc)))).trans (I.base.keep b o e n hb hx)
    · obtain ⟨sl,e1⟩:=I.base.slot b o e n hb hx
      exact ⟨sl,(hs.2 b (Nat.ne_of_lt (Nat.lt_of_lt_of_le (Heap.lt_size e) (I.ok.cab x c hfn hc)))).trans e1⟩
    · obtain ⟨o',e1⟩:=I.base.there b o e hx
      exact ⟨o',(hs.2 b (Nat.ne_of_lt (Nat.lt_of_lt_of_le (Heap.lt_size e) (I.ok.cab x c hfn hc)))).trans e1⟩
    · by_cases hj:j = i
      · subst hj
        rw [hi] at e1; cases e1
        rw [List.getElem?_set_self hiσ] at e2
        cases e2
        exact ⟨u,r,.inr ⟨.inl hk,c,hc,hc'⟩⟩
      · rw [List.getElem?_set_ne (Ne.symm hj)] at e2
        obtain ⟨u',r',q⟩:=hl j y v' e1 e2 e3
        refine ⟨u',r',?_⟩
        rcases q with q | ⟨k,c',e,z'⟩
        · exact .inl q
        · refine .inr ⟨k,c',e,z'.sameBut hs ?_⟩
          rintro rfl
          exact hj (nodup_ix hN e1 (I.ok.inj _ _ _ e hc ▸ hi))
    · by_cases hcc:c' = c
      · subst hcc; exact ⟨_,hc'⟩
      · obtain ⟨w2,z2⟩:=I.cell y c' e
        exact ⟨w2,z2.sameBut hs hcc⟩
    · obtain ⟨e,n,ne,nf,d⟩:=I.pin p hp
      refine ⟨(hs.2 p.1 ?_).trans e,n,ne,nf,d⟩
      intro q
      rw [q,hoc] at e
      have q':oc = p.2:=Option.some.inj e
      exact d w' (by rw [← q']; exact hocd)
theorem store_ok {M:Model} {A:Around} {E:Value → Shared → Prop} {i:Nat} {x:Str} {v:V} {u:Value} {Q:Unit → Shared → Prop} (I:Inv X pins σ H s) (hN:X.N.Nodup) (hi:X.N[i]? = some x) (hx:Loc X.env.scope x) (r:RelV v u)
    (h:∀ s',Inv X pins (σ.set i (some v)) H s' → Q () s') (hf:X.fn x = true ∨ X.env.scope.names.lookup x = some .local:=by first | exact .inl rfl | exact .inr rfl | assumption):wpAny M A (storeName X.env x u) Q E s :=
  store_ok2 I hN hi hx r (fun s' I' _=>h s' I') hf
theorem Inv.call' {s':Shared} {ch:List Addr} (I:Inv X pins σ H s) (ho:s'.os = s.os) (u:Un (frs X.stack) ch H H' s.heap s'.heap) (hok:HOk X.prog X.w H' s'.heap) (hg:AllBare s'.gens)
    (hch:∀ b ∈ ch,(b ∈ X.ex ∨ X.s₀.heap.objs.size ≤ b) ∧ b ≠ X.env.locals ∧ (∀ x c,X.env.cells.lookup x = some c → c ≠ b) ∧ ∀ p ∈ X.pn ++ pins,p.1 ≠ b):Inv X pins σ H' s':=by
  obtain ⟨h',g',d',t',o'⟩:=s'
  have e:o' = s.os:=ho
  subst e
  exact I.call (g':=g') (t':=t') (d':=d') u hok hg hch
end
abbrev XK:=Value → Option Addr → Hp → Prop
abbrev St:=List (Option V)
abbrev VK:=V → Hp → Prop
abbrev TE:=St → Hp → VK → Prop
abbrev TT:=St → Hp → (Bool → Hp → Prop) → Prop
abbrev TA:=St → Hp → (List V → Hp → Prop) → Prop
structure Ends where
  nx:St → Hp → Prop
  rt:VK
  bk:St → Hp → Prop:=fun _ _=>False
  ct:St → Hp → Prop:=fun _ _=>False
abbrev TS:=Ends → St → Hp → Prop
def EP (X:Cx) (pins:List (Addr × Obj)) (σ:St) (Q:VK) (u:Value) (s':Shared):Prop:=∃ v H',Inv X pins σ H' s' ∧ RelV v u ∧ Q v H'
def TP (X:Cx) (pins:List (Addr × Obj)) (σ:St) (Q:Bool → Hp → Prop) (b:Bool) (s':Shared):Prop:=∃ H',Inv X pins σ H' s' ∧ Q b H'
def AP (X:Cx) (pins:List (Addr × Obj)) (σ:St) (Q:List V → Hp → Prop) (us:List Value) (s':Shared):Prop:=∃ vs H',Inv X pins σ H' s' ∧ Vals vs us ∧ Q vs H'
def SP (X:Cx) (pins:List (Addr × Obj)) (D:Ends) (f:Flow) (s':Shared):Prop :=
  match f with
  | .next=>∃ σ' H',Inv X pins σ' H' s' ∧ D.nx σ' H'
  | .brk=>∃ σ' H',Inv X pins σ' H' s' ∧ D.bk σ' H'
  | .cont=>∃ σ' H',Inv X pins σ' H' s' ∧ D.ct σ' H'
  | .ret u=>∃ v σ' H',Inv X pins σ' H' s' ∧ RelV v u ∧ D.rt v H'
def PE (X:Cx) (e:Expr) (t:TE):Prop :=
  ∀ (pins:List (Addr × Obj)) (s:Shared) (σ:St) (H:Hp) (Q:VK),Inv X pins σ H s → t σ H Q → wpAny (model X.prog X.w) X.A (eval e X.env) (EP X pins σ Q) X.xe s
def PT (X:Cx) (e:Expr) (t:TT):Prop :=
  ∀ (pins:List (Addr × Obj)) (s:Shared) (σ:St) (H:Hp) (Q:Bool → Hp → Prop),Inv X pins σ H s → t σ H Q → wpAny (model X.prog X.w) X.A (isTrue e X.env (eval e X.env)) (TP X pins σ Q) X.xe s
def PW (X:Cx) (e:Expr) (t:TT):Prop :=
  ∀ (whole:Sem Value) (pins:List (Addr × Obj)) (s:Shared) (σ:St) (H:Hp) (Q:Bool → Hp → Prop),Inv X pins σ H s → t σ H Q → wpAny (model X.prog X.w) X.A (isTrue e X.env whole) (TP X pins σ Q) X.xe s
theorem PW.pt {X:Cx} {e:Expr} {t:TT} (h:PW X e t):PT X e t:=h _
def PA (X:Cx) (es:List Expr) (t:TA):Prop :=
  ∀ (pos:Pos) (pins:List (Addr × Obj)) (s:Shared) (σ:St) (H:Hp) (Q:List V → Hp → Prop),Inv X pins σ H s → t σ H Q → wpAny (model X.prog X.w) X.A (spliced (backTo pos (starEach es X.env))) (AP X pins σ Q) X.xe s
def PS (X:Cx) (st:Stmt) (t:TS):Prop :=
  ∀ (pins:List (Addr × Obj)) (s:Shared) (σ:St) (H:Hp) (D:Ends),Inv X pins σ H s → t D σ H → wpAny (model X.prog X.w) X.A (exec st X.env) (SP X pins D) X.xe s
def PSs (X:Cx) (st:List Stmt) (t:TS):Prop :=
  ∀ (pins:List (Addr × Obj)) (s:Shared) (σ:St) (H:Hp) (D:Ends),Inv X pins σ H s → t D σ H → wpAny (model X.prog X.w) X.A (execs st X.env) (SP X pins D) X.xe s
theorem thn {α:Type} {t:Sem α} {Q Q':α → Shared → Prop} {M:Model} {A:Around} {E:Value → Shared → Prop} {s:Shared} (h:wpAny M A t Q E s) (hQ:∀ a s,Q a s → Q' a s):wpAny M A t Q' E s:=wpAny_mono h hQ fun _ _ x=>x
end L2
namespace L2
open PySem PySem.Spec PyProof.Rows
section
variable {X:Cx}
def tVar (i:Nat):TE:=fun σ H Q=>∃ v,σ[i]? = some (some v) ∧ Q v H
def tC (v:V):TE:=fun _ H Q=>Q v H
theorem pe_var {i:Nat} {x:Str} {pos:Pos} (hN:X.N[i]? = some x) (hv:Vis X.env.scope x) (hd:(x == ("__debug__" : Str)) = false:=by decide) (hcd:(x == ("__classdict__" : Str)) = false:=by decide):PE X (.Name x pos) (tVar i):=by
  intro pins s σ H Q I h
  obtain ⟨v,e,h⟩:=h
  obtain ⟨m,hn,hl⟩:=I.loc
  obtain ⟨u,r,l⟩:=hl i x v hN e hv
  have fin:EP X pins σ Q u s:=⟨v,H,I,r,h⟩
  rcases l with ⟨hk,hm⟩ | ⟨hk,c,hc,hcell⟩
  · exact wpAny_Name (wpAny_loadName_local I.ok.kind hk hn hm fin) hd
  · rcases hk with hk | hk
    · exact wpAny_Name (wpAny_loadName_cell I.ok.kind hk hc hcell fin) hd
    · exact wpAny_Name (wpAny_loadName_free I.ok.kind hk hc hcell fin hcd) hd
theorem pe_int {i j pos}:PE X (.Constant (.int i) j pos) (tC (.int i)):=fun _ _ _ H _ I h=>wpAny_Constant_int ⟨.int i,H,I.tok _,⟨_,rfl⟩,h⟩
theorem pe_bl {b j pos}:PE X (.Constant (.bool b) j pos) (tC (.bl b)):=fun _ _ _ H _ I h=>Constant_bool ⟨.bl b,H,I,rfl,h⟩
def Gl (X:Cx) (x:Str):Prop:=X.env.kindOf x = some .globalImplicit
theorem ld_glob {E:Value → Shared → Prop} {pins:List (Addr × Obj)} {s:Shared} {σ:St} {H:Hp} {x:Str} {u:Value} {pos:Pos} {Q:Value → Shared → Prop} (I:Inv X pins σ H s) (hg:Gl X x) (hm:X.mg x = some u) (h:Q u s)
    (hd:(x == ("__debug__" : Str)) = false:=by decide):wpAny (model X.prog X.w) X.A (eval (.Name x pos) X.env) Q E s :=
  Calls.Name_function_global I.ok.kind hg (Calls.loadGlobal_global (by rw [I.ok.glob]; exact I.mod.glob.keeps I.bk) hm h) hd
theorem ld_blt {E:Value → Shared → Prop} {pins:List (Addr × Obj)} {s:Shared} {σ:St} {H:Hp} {x:Str} {u:Value} {pos:Pos} {Q:Value → Shared → Prop} (I:Inv X pins σ H s) (hg:Gl X x) (hm:X.mg x = none) (hv:bootBuiltins x = some u) (h:Q u s)
    (hn:x ≠ "__name__" := by decide) (hd:(x == ("__debug__" : Str)) = false:=by decide):wpAny (model X.prog X.w) X.A (eval (.Name x pos) X.env) Q E s:=by
  obtain ⟨mb,h1,h2⟩:=I.mod.blt
  exact Calls.Name_function_global I.ok.kind hg (Calls.loadGlobal_builtin (by rw [I.ok.glob]; exact I.mod.glob.keeps I.bk) hm (by rw [I.ok.blt]; exact h1.keeps I.bk) ((h2 x hn).trans hv) h) hd
theorem pe_glob {x:Str} {v:V} {u:Value} {pos:Pos} (hg:Gl X x) (hm:X.mg x = some u) (r:RelV v u) (hd:(x == ("__debug__" : Str)) = false:=by decide):PE X (.Name x pos) (tC v) :=
  fun _ _ _ H _ I h=>ld_glob I hg hm ⟨v,H,I,r,h⟩ hd
theorem pe_bltn {x:Str} {v:V} {u:Value} {pos:Pos} (hg:Gl X x) (hm:X.mg x = none) (hv:bootBuiltins x = some u) (r:RelV v u) (hn:x ≠ "__name__" := by decide) (hd:(x == ("__debug__" : Str)) = false:=by decide):PE X (.Name x pos) (tC v) :=
  fun _ _ _ H _ I h=>ld_blt I hg hm hv ⟨v,H,I,r,h⟩ hn hd
variable {a b:Expr} {ta tb:TE} {pos:Pos}
def PC (X:Cx) (op:CmpOp) (a b:Expr) (t:TE):Prop :=
  ∀ (pins:List (Addr × Obj)) (s:Shared) (σ:St) (H:Hp) (Q:VK),Inv X pins σ H s → t σ H Q →
    wpAny (model X.prog X.w) X.A (eval a X.env) (fun v s₁=>wpAny (model X.prog X.w) X.A (eval b X.env) (fun u s₂=>wpAny (model X.prog X.w) X.A (compareOp op v u) (EP X pins σ Q) X.xe s₂) X.xe s₁) X.xe s
theorem nobehind (b:Expr) {op:CmpOp} (h:op ≠ .In) (h2:op ≠ .NotIn):behindInMarks op b = false:=by
  have e1:(op == CmpOp.In) = false:=by cases op <;> first | rfl | exact absurd rfl h
  have e2:(op == CmpOp.NotIn) = false:=by cases op <;> first | rfl | exact absurd rfl h2
  cases b <;> simp [behindInMarks,e1,e2]
def tB (t:TE):TT:=fun σ H Q=>t σ H fun x H1=>∃ c,x = .bl c ∧ Q c H1
theorem pt_cmp {op:CmpOp} {t:TE} (h:PC X op a b t) (h1:behindInMarks op b = false:=by first | exact nobehind _ (by decide) (by decide) | rfl):PT X (.Compare a [op] [b] pos) (tB t):=by
  intro pins s σ H Q I hw
  refine wpAny_isTrue_Compare1 (thn (h pins s σ H _ I hw) fun v s1 h1=>thn h1 fun u s2 h2=>thn h2 fun c s3 ⟨x,H1,I1,r1,q1⟩=>?_) h1
  obtain ⟨d,rfl,q⟩:=q1
  cases r1
  exact wpAny_truthy_bool ⟨H1,I1,q⟩
theorem pt_val {e:Expr} {t:TE} (h:PE X e t) (he:∀ whole,isTrue e X.env whole = (do let v ← whole; standAt e.pos; holding [v] (truthy v)):=by intro _; rfl):PT X e (tB t):=by
  intro pins s σ H Q I hw
  refine isTrue_plain (thn (h pins s σ H _ I hw) fun v s1 ⟨x,H1,I1,r1,q1⟩=>?_) (he _)
  obtain ⟨d,rfl,q⟩:=q1
  cases r1
  exact wpAny_truthy_bool ⟨H1,I1,q⟩
variable {tA tB':TT} {rest:List Expr}
def tAnd (t u:TT):TT:=fun σ H Q=>t σ H fun c H1=>if c = true then u σ H1 Q else Q false H1
def tOr (t u:TT):TT:=fun σ H Q=>t σ H fun c H1=>if c = true then Q true H1 else u σ H1 Q
def tNot (t:TT):TT:=fun σ H Q=>t σ H fun c H1=>Q (!c) H1
theorem pw_and1 (ha:PT X a tA):PW X (.BoolOp .And [a] pos) tA:=by
  intro wh pins s σ H Q I h
  refine isTrue_and (thn (ha pins s σ H Q I h) fun c s1 e=>?_)
  cases c with
  | true=>exact isTrue_and_nil e
  | false=>exact e
theorem pw_or1 (ha:PT X a tA):PW X (.BoolOp .Or [a] pos) tA:=by
  intro wh pins s σ H Q I h
  refine isTrue_or (thn (ha pins s σ H Q I h) fun c s1 e=>?_)
  cases c with
  | false=>exact isTrue_or_nil e
  | true=>exact e
theorem pw_and (ha:PT X a tA) (hb:PW X (.BoolOp .And (b :: rest) pos) tB'):PW X (.BoolOp .And (a :: b :: rest) pos) (tAnd tA tB'):=by
  intro wh pins s σ H Q I h
  refine isTrue_and (thn (ha pins s σ H _ I h) fun c s1 ⟨H1,I1,q1⟩=>?_)
  cases c with
  | true=>exact hb wh pins s1 σ H1 Q I1 q1
  | false=>exact ⟨H1,I1,q1⟩
theorem pw_or (ha:PT X a tA) (hb:PW X (.BoolOp .Or (b :: rest) pos) tB'):PW X (.BoolOp .Or (a :: b :: rest) pos) (tOr tA tB'):=by
  intro wh pins s σ H Q I h
  refine isTrue_or (thn (ha pins s σ H _ I h) fun c s1 ⟨H1,I1,q1⟩=>?_)
  cases c with
  | true=>exact ⟨H1,I1,q1⟩
  | false=>exact hb wh pins s1 σ H1 Q I1 q1
theorem pt_not (ha:PT X a tA):PT X (.UnaryOp .Not a pos) (tNot tA):=by
  intro pins s σ H Q I h
  exact isTrue_not (ha pins s σ H (fun c H1=>Q (!c) H1) I h)
def tAndV (ta tb:TE):TE:=fun σ H Q=>ta σ H fun x H1=>∃ c,x = .bl c ∧ if c = true then tb σ H1 Q else Q (.bl false) H1
def tNotV (ta:TE):TE:=fun σ H Q=>ta σ H fun x H1=>∃ c,x = .bl c ∧ Q (.bl (!c)) H1
theorem pe_one {op} {t:TE} (h:PE X a t):PE X (.BoolOp op [a] pos) t:=fun pins s σ H Q I hw=>BoolOp_one (h pins s σ H Q I hw)
theorem pe_and (ha:PE X a ta) (hb:PE X (.BoolOp .And (b :: rest) pos) tb):PE X (.BoolOp .And (a :: b :: rest) pos) (tAndV ta tb):=by
  intro pins s σ H Q I h
  refine BoolOp_and (thn (ha pins s σ H _ I h) fun v s1 ⟨x,H1,I1,r1,q1⟩=>?_)
  obtain ⟨c,rfl,q1⟩:=q1
  cases r1
  refine wpAny_truthy_bool ?_
  cases c with
  | true=>exact hb pins s1 σ H1 Q I1 q1
  | false=>exact ⟨.bl false,H1,I1,rfl,q1⟩
theorem pe_not (ha:PE X a ta):PE X (.UnaryOp .Not a pos) (tNotV ta):=by
  intro pins s σ H Q I h
  refine UnaryOp_ (thn (ha pins s σ H _ I h) fun v s1 ⟨x,H1,I1,r1,q1⟩=>?_)
  obtain ⟨c,rfl,q1⟩:=q1
  cases r1
  exact not_of (wpAny_truthy_bool ⟨.bl (!c),H1,I1,rfl,q1⟩)
def tIf (t:TT) (ta tb:TE):TE:=fun σ H Q=>t σ H fun c H1=>if c = true then ta σ H1 Q else tb σ H1 Q
theorem pe_ifExp {c:Expr} (hc:PT X c tA) (ha:PE X a ta) (hb:PE X b tb):PE X (.IfExp c a b pos) (tIf tA ta tb):=by
  intro pins s σ H Q I h
  refine wpAny_IfExp (thn (hc pins s σ H _ I h) fun d s1 ⟨H1,I1,q1⟩=>?_)
  cases d with
  | true=>exact ha pins s1 σ H1 Q I1 q1
  | false=>exact hb pins s1 σ H1 Q I1 q1
end
end L2
namespace L2
open PySem PySem.Spec PyProof.Rows
def SqL (K:PySem.W.Frag) (H:Hp) (a:Addr) (xs:List V):Prop :=
  Rd H a (.lst xs) ∨
    ∃ (o:Obj) (its:Array Value) (n:Nat),K.lookup a = some o ∧ o.cls = .type "list" ∧ o.dict = none ∧ o.data = .seq its n ∧ its.size ≤ sizeLine ∧ Vals xs its.toList
def SqT (K:PySem.W.Frag) (H:Hp) (a:Addr) (xs:List V):Prop :=
  Rd H a (.tup xs) ∨
    ∃ (o:Obj) (its:Array Value) (n:Nat),K.lookup a = some o ∧ o.cls = .type "tuple" ∧ o.data = .seq its n ∧ its.size ≤ sizeLine ∧ Vals xs its.toList
def absV:Value → Option V
  | .none=>some .non
  | .bool b=>some (.bl b)
  | .int i _=>some (.int i)
  | .str x _=>some (.str x)
  | .bytes b _=>some (.byt b)
  | .float b _=>some (.flt b)
  | .ref a=>some (.ref a)
  | .type n=>some (.ty n)
  | _=>none
theorem RelV.abs {x:V} {u:Value} (r:RelV x u):absV u = some x:=by
  cases x with
  | non=>cases r; rfl
  | bl _=>cases r; rfl
  | int _=>obtain ⟨t,rfl⟩:=r; rfl
  | str _=>obtain ⟨t,rfl⟩:=r; rfl
  | byt _=>obtain ⟨t,rfl⟩:=r; rfl
  | flt _=>obtain ⟨t,rfl⟩:=r; rfl
  | ref _=>cases r; rfl
  | ty _=>cases r; rfl
theorem RelV.inj {x y:V} {u:Value} (r:RelV x u) (q:RelV y u):x = y:=Option.some.inj (r.abs.symm.trans q.abs)
theorem Vals.inj:∀ {xs ys:List V} {us:List Value},Vals xs us → Vals ys us → xs = ys
  | _,_,_,.nil,.nil=>rfl
  | _,_,_,.cons r t,.cons r' t'=>by rw [r.inj r',Vals.inj t t']
section
variable {X:Cx} {pins:List (Addr × Obj)} {σ:St} {H:Hp} {s:Shared} {a:Addr} {xs ys:List V}
theorem SqL.of {K:PySem.W.Frag} (h:H a = some (.lst xs)):SqL K H a xs:=.inl (.inl h)
theorem SqT.of {K:PySem.W.Frag} (h:H a = some (.tup xs)):SqT K H a xs:=.inl (.inl h)
theorem Inv.list (I:Inv X pins σ H s) (h:SqL X.K H a xs):∃ its:List Value,Vals xs its ∧ PlainL s.heap a its.toArray ∧ xs.length ≤ sizeLine:=by
  rcases h with h | ⟨o,its,n,hk,hc,hd,hs,hz,r⟩
  · obtain ⟨z,its,n,r,e⟩:=h.ok I.hok
    exact ⟨its,r,⟨_,n,e,rfl,rfl,rfl⟩,z⟩
  · refine ⟨its.toList,r,⟨o,n,I.kIn a o hk,hc,hd,by simpa using hs⟩,?_⟩
    have e:=r.length
    simp only [Array.length_toList] at e
    omega
theorem Inv.tuple (I:Inv X pins σ H s) (h:SqT X.K H a xs):∃ its:List Value,Vals xs its ∧ IsTup s.heap a its.toArray ∧ xs.length ≤ sizeLine:=by
  rcases h with h | ⟨o,its,n,hk,hc,hs,hz,r⟩
  · obtain ⟨z,its,r,p⟩:=h.ok I.hok
    exact ⟨its,r,p,z⟩
  · refine ⟨its.toList,r,⟨o,I.kIn a o hk,hc,n,by simpa using hs⟩,?_⟩
    have e:=r.length
    simp only [Array.length_toList] at e
    omega
theorem Inv.list_inj (I:Inv X pins σ H s) (h:SqL X.K H a xs) (h':SqL X.K H a ys):xs = ys:=by
  obtain ⟨its,r,⟨o,n,e,_,_,d⟩,_⟩:=I.list h
  obtain ⟨its',r',⟨o',n',e',_,_,d'⟩,_⟩:=I.list h'
  rw [e] at e'; cases e'
  rw [d] at d'
  injection d' with d1 _
  have:its = its':=by simpa using congrArg Array.toList d1
  subst this
  exact r.inj r'
theorem Inv.tuple_inj (I:Inv X pins σ H s) (h:SqT X.K H a xs) (h':SqT X.K H a ys):xs = ys:=by
  obtain ⟨its,r,⟨o,e,_,n,d⟩,_⟩:=I.tuple h
  obtain ⟨its',r',⟨o',e',_,n',d'⟩,_⟩:=I.tuple h'
  rw [e] at e'; cases e'
  rw [d] at d'
  injection d' with d1 _
  have:its = its':=by simpa using congrArg Array.toList d1
  subst this
  exact r.inj r'
end
abbrev Cx.wish (X:Cx) (E:Value → Shared → Prop):Cx:={ X with xe:=E }
abbrev Cx.nox (X:Cx):Cx:=X.wish fun _ _=>False
theorem Cx.Ok.wish {X:Cx} (ok:X.Ok) (E:Value → Shared → Prop):(X.wish E).Ok :=
  ⟨ok.mod,ok.kind,ok.glob,ok.blt,ok.above,ok.inj,ok.has,ok.cab,ok.hd,ok.frames,ok.stk,ok.exf,ok.bs,ok.bsz,ok.noex,ok.exfs,ok.funs,ok.frf⟩
theorem Cx.Ok.unwish {X:Cx} {E:Value → Shared → Prop} (ok:(X.wish E).Ok):X.Ok :=
  ⟨ok.mod,ok.kind,ok.glob,ok.blt,ok.above,ok.inj,ok.has,ok.cab,ok.hd,ok.frames,ok.stk,ok.exf,ok.bs,ok.bsz,ok.noex,ok.exfs,ok.funs,ok.frf⟩
section
variable {X:Cx} {pins:List (Addr × Obj)} {σ:St} {H:Hp} {s:Shared} {E:Value → Shared → Prop}
theorem Inv.wish (I:Inv X pins σ H s) (E:Value → Shared → Prop):Inv (X.wish E) pins σ H s:=⟨I.ok.wish E,I.os,I.bare,I.base,I.loc,I.cell,I.free,I.freeC,I.pin,I.hok,I.len⟩
theorem Inv.unwish (I:Inv (X.wish E) pins σ H s):Inv X pins σ H s:=⟨I.ok.unwish,I.os,I.bare,I.base,I.loc,I.cell,I.free,I.freeC,I.pin,I.hok,I.len⟩
theorem SP.unwish {D:Ends} {f:Flow} {s':Shared} (h:SP (X.wish E) pins D f s'):SP X pins D f s':=by
  cases f with
  | next=>obtain ⟨σ',H',I,q⟩:=h; exact ⟨σ',H',I.unwish,q⟩
  | brk=>obtain ⟨σ',H',I,q⟩:=h; exact ⟨σ',H',I.unwish,q⟩
  | cont=>obtain ⟨σ',H',I,q⟩:=h; exact ⟨σ',H',I.unwish,q⟩
  | ret u=>obtain ⟨v,σ',H',I,r,q⟩:=h; exact ⟨v,σ',H',I.unwish,r,q⟩
theorem PE.nox {e:Expr} {t:TE} (h:PE X.nox e t):PE X e t:=fun pins s σ H Q I hw =>
  wpAny_mono (h pins s σ H Q (I.wish _) hw) (fun _ _ ⟨v,H',I',r,q⟩=>⟨v,H',I'.unwish,r,q⟩) fun _ _ z=>False.elim z
theorem PT.nox {e:Expr} {t:TT} (h:PT X.nox e t):PT X e t:=fun pins s σ H Q I hw =>
  wpAny_mono (h pins s σ H Q (I.wish _) hw) (fun _ _ ⟨H',I',q⟩=>⟨H',I'.unwish,q⟩) fun _ _ z=>False.elim z
theorem PSs.nox {st:List Stmt} {t:TS} (h:PSs X.nox st t):PSs X st t:=fun pins s σ H D I hw =>
  wpAny_mono (h pins s σ H D (I.wish _) hw) (fun _ _ q=>q.unwish) fun _ _ z=>False.elim z
end
section
variable {X:Cx} {st:Stmt} {rest:List Stmt} {t u:TS} {e:Expr} {te:TE} {pos:Pos}
def tNext:TS:=fun D σ H=>D.nx σ H
def tSeq (t u:TS):TS:=fun D σ H=>t { D with nx:=u D } σ H
theorem pss_nil:PSs X [] tNext:=fun _ _ σ H _ I h=>wpAny_execs_nil ⟨σ,H,I,h⟩
theorem pss_cons (h1:PS X st t) (h2:PSs X rest u):PSs X (st :: rest) (tSeq t u):=by
  intro pins s σ H D I h
  refine wpAny_execs_cons (thn (h1 pins s σ H { D with nx:=u D } I h) fun f s1 q=>?_)
  cases f with
  | next =>
    obtain ⟨σ',H',I',q⟩:=q
    exact h2 pins s1 σ' H' D I' q
  | ret v=>exact q
  | brk=>exact q
  | cont=>exact q
theorem pss_one (h1:PS X st t):PSs X [st] t:=by
  intro pins s σ H D I h
  refine wpAny_execs_cons (thn (h1 pins s σ H D I h) fun f s1 q=>?_)
  cases f with
  | next=>exact wpAny_execs_nil q
  | ret v=>exact q
  | brk=>exact q
  | cont=>exact q
theorem Inv.quiet {pins:List (Addr × Obj)} {σ:St} {H:Hp} {s:Shared} (I:Inv X pins σ H s):interactive X.env = false:=by simp [interactive,I.ok.kind]
def tDrop (te:TE):TS:=fun D σ H=>te σ H fun _ H1=>D.nx σ H1
theorem ps_expr (he:PE X e te) (hs:swapsWith e none pos.line X.env = pure false:=by rfl):PS X (.Expr e pos) (tDrop te):=by
  intro pins s σ H D I h
  exact wpAny_Expr_any (thn (he pins s σ H _ I h) fun v s1 ⟨x,H1,I1,r1,q1⟩=>⟨σ,H1,I1,q1⟩) I.quiet hs
def tRet (te:TE):TS:=fun D σ H=>te σ H D.rt
theorem ps_ret (he:PE X e te):PS X (.Return (some e) pos) (tRet te):=by
  intro pins s σ H D I h
  exact wpAny_Return_some (thn (he pins s σ H _ I h) fun v s1 ⟨x,H1,I1,r1,q1⟩=>⟨x,σ,H1,I1,r1,q1⟩)
def tIfS (c:TT) (t u:TS):TS:=fun D σ H=>c σ H fun b H1=>if b = true then t D σ H1 else u D σ H1
theorem ps_if {c:Expr} {a b:List Stmt} {tc:TT} (hc:PT X c tc) (ha:PSs X a t) (hb:PSs X b u):PS X (.If c a b pos) (tIfS tc t u):=by
  intro pins s σ H D I h
  refine wpAny_If (thn (hc pins s σ H _ I h) fun d s1 ⟨H1,I1,q1⟩=>?_)
  cases d with
  | true=>exact ha pins s1 σ H1 D I1 q1
  | false=>exact hb pins s1 σ H1 D I1 q1
end
abbrev TG:=V → St → Hp → (St → Hp → Prop) → Prop
abbrev TGs:=List V → St → Hp → (St → Hp → Prop) → Prop
def PG (X:Cx) (target:Expr) (t:TG):Prop :=
  ∀ (pins:List (Addr × Obj)) (s:Shared) (σ:St) (H:Hp) (v:V) (u:Value) (Q:St → Hp → Prop),Inv X pins σ H s → RelV v u → t v σ H Q →
    wpAny (model X.prog X.w) X.A (assign target X.env u) (fun _ s'=>∃ σ' H',Inv X pins σ' H' s' ∧ Q σ' H') X.xe s
def PGs (X:Cx) (ts:List Expr) (t:TGs):Prop :=
  ∀ (pins:List (Addr × Obj)) (s:Shared) (σ:St) (H:Hp) (vs:List V) (us:List Value) (Q:St → Hp → Prop),Inv X pins σ H s → Vals vs us → t vs σ H Q →
    wpAny (model X.prog X.w) X.A (assignInOrder ((assignEach ts X.env).map (·.2)) us) (fun _ s'=>∃ σ' H',Inv X pins σ' H' s' ∧ Q σ' H') X.xe s
section
variable {X:Cx} {pos:Pos}
def gName (i:Nat):TG:=fun v σ H Q=>Q (σ.set i (some v)) H
theorem pg_name {i:Nat} {x:Str} (hN:X.N.Nodup) (hi:X.N[i]? = some x) (hx:Loc X.env.scope x) (hf:X.fn x = true ∨ X.env.scope.names.lookup x = some .local:=by first | exact .inl rfl | exact .inr rfl | assumption):PG X (.Name x pos) (gName i):=by
  intro pins s σ H v u Q I r h
  exact wpAny_assign_Name (store_ok I hN hi hx r (fun s' I'=>⟨_,H,I',h⟩) hf)
def gNil:TGs:=fun vs σ H Q=>vs = [] ∧ Q σ H
def gCons (t:TG) (u:TGs):TGs:=fun vs σ H Q=>∃ v r,vs = v :: r ∧ t v σ H fun σ' H'=>u r σ' H' Q
theorem pgs_nil:PGs X [] gNil:=by
  intro pins s σ H vs us Q I r h
  obtain ⟨e,h⟩:=h
  subst e
  cases r
  exact assignInOrder_nil ⟨σ,H,I,h⟩
theorem pgs_cons {e:Expr} {es:List Expr} {t:TG} {u:TGs} (h1:PG X e t) (h2:PGs X es u)
    (hs:(assignEach (e :: es) X.env).map (·.2) = assign e X.env :: (assignEach es X.env).map (·.2):=by rfl):PGs X (e :: es) (gCons t u):=by
  intro pins s σ H vs us Q I r h
  obtain ⟨v,vr,e1,h⟩:=h
  subst e1
  cases r with
  | cons r rr =>
    rw [hs]
    refine assignInOrder_cons (thn (h1 pins s σ H _ _ _ I r h) fun _ s1 ⟨σ1,H1,I1,q1⟩=>?_)
    exact h2 pins s1 σ1 H1 _ _ Q I1 rr q1
def gTup (K:PySem.W.Frag) (n:Nat) (t:TGs):TG:=fun v σ H Q=>∃ a xs,v = .ref a ∧ SqT K H a xs ∧ xs.length = n ∧ t xs σ H Q
theorem pg_tup {es:List Expr} {k:Nat} {t:TGs} {n:Nat} (hc:X.calm = true) (h:PGs X es t)
    (hn:(assignEach es X.env).length = n:=by rfl) (hst:(assignEach es X.env).findIdx? (·.1) = none:=by rfl):PG X (.Tuple es k pos) (gTup X.K n t):=by
  intro pins s σ H v u Q I r hw
  obtain ⟨a,xs,e1,hq,hl,hw⟩:=hw
  subst e1
  cases r
  obtain ⟨its,rv,ht,hz⟩:=I.tuple hq
  refine assign_Tuple_tuple (I.ok.hd hc) ht (by simp [hn,← hl,rv.length]) hst fun h' hx=>?_
  have I1:Inv X pins σ H { s with heap:=h' }:=I.kept (t':=s.toks) fun b o e=>hx b o (Nat.ne_of_lt (Heap.lt_size e)) e
  exact h pins _ σ H xs _ Q I1 (by simpa using rv) hw
def tAsg (te:TE) (g:TG):TS:=fun D σ H=>te σ H fun x H1=>g x σ H1 D.nx
theorem ps_asg {tg e:Expr} {te:TE} {g:TG} (he:PE X e te) (hg:PG X tg g) (hs:swapsWithSole [tg] e pos.line X.env = pure false:=by rfl) (hw:swappedStores [tg] e X.env = pure none:=by rfl)
    (h1:(assignEach [tg] X.env).map (·.2) = [assign tg X.env]:=by rfl):PS X (.Assign [tg] e pos) (tAsg te g):=by
  intro pins s σ H D I h
  refine wpAny_Assign_stores (thn (he pins s σ H _ I h) fun v s1 ⟨x,H1,I1,r1,q1⟩=>?_) hs hw
  rw [h1]
  exact thn (hg pins s1 σ H1 x v _ I1 r1 q1) fun _ s2 q=>q
theorem ps_set {i:Nat} {x:Str} {e:Expr} {te:TE} {pos':Pos} (hN:X.N.Nodup) (hi:X.N[i]? = some x) (hx:Loc X.env.scope x) (he:PE X e te) (hs:swapsWith e (some (.Name x pos')) pos.line X.env = pure false:=by rfl) (hf:X.fn x = true ∨ X.env.scope.names.lookup x = some .local:=by first | exact .inl rfl | exact .inr rfl | assumption) :
    PS X (.Assign [.Name x pos'] e pos) (tAsg te (gName i)):=by
  intro pins s σ H D I h
  refine wpAny_Assign_Name (thn (he pins s σ H _ I h) fun v s1 ⟨y,H1,I1,r1,q1⟩=>?_) hs
  exact store_ok I1 hN hi hx r1 (fun s2 I2=>⟨_,H1,I2,q1⟩) hf
def tPar (i j:Nat) (ta:TA):TS:=fun D σ H=>ta σ H fun vs H1=>∃ v w,vs = [v,w] ∧ D.nx ((σ.set i (some v)).set j (some w)) H1
theorem ps_par {i j:Nat} {x y:Str} {a b:Expr} {ta:TA} {px py pt:Pos} {kt k2 pt2} (hc:X.calm = true) (hN:X.N.Nodup) (hi:X.N[i]? = some x) (hj:X.N[j]? = some y) (hij:i ≠ j)
    (hx:X.env.scope.names.lookup x = some .local) (hy:X.env.scope.names.lookup y = some .local) (ha:PA X [a,b] ta)
    (hw:swappedStores [.Tuple [.Name x px,.Name y py] kt pt] (.Tuple [a,b] k2 pt2) X.env = pure (some [x,y]))
    (hs:swapsWithSole [.Tuple [.Name x px,.Name y py] kt pt] (.Tuple [a,b] k2 pt2) pos.line X.env = pure false:=by rfl) :
    PS X (.Assign [.Tuple [.Name x px,.Name y py] kt pt] (.Tuple [a,b] k2 pt2) pos) (tPar i j ta):=by
  intro pins s σ H D I h
  rw [exec_Assign_arm]
  refine wpAny_bind (wpAny_standAt ?_)
  rw [hs]
  refine wpAny_bind (wpAny_pure ?_)
  rw [if_neg (by decide)]
  refine wpAny_bind (Tuple_ (thn (ha _ pins s σ H _ I h) fun us s1 ⟨vs,H1,I1,r1,q1⟩=>?_))
  obtain ⟨v,w,e1,q1⟩:=q1
  subst e1
  obtain ⟨u1,u2,rfl,rv,rw'⟩:∃ u1 u2,us = [u1,u2] ∧ RelV v u1 ∧ RelV w u2:=by
    cases r1 with
    | cons p q =>
      cases q with
      | cons p' q' =>
        cases q'
        exact ⟨_,_,rfl,p,p'⟩
  refine wpAny_newObj_type ?_ (by show 2 ≤ sizeLine; decide)
  have I2:Inv X pins σ H1 { s1 with heap:=s1.heap.push { cls:=.type "tuple", data:=.seq [u1,u2].toArray } }:=I1.kept (t':=s1.toks) fun b o e=>Heap.get?_push_of_some _ e
  rw [hw]
  refine wpAny_bind (wpAny_pure ?_)
  show wpAny (model X.prog X.w) X.A (do rule "assign.swapped-stores"; let items ← unpackItems (.ref s1.heap.objs.size) 2 none; assignInOrder [fun v=>bindName X.env y v,fun v=>bindName X.env x v] items.reverse; pure Flow.next) _ _ _
  refine wpAny_bind (wpAny_rule (wpAny_bind (unpackItems_tuple (items:=#[u1,u2]) (I.ok.hd hc) (IsTup.new s1.heap _) fun h' hx'=>?_)))
  have I3:=I2.kept (h':=h') (t':=s1.toks) fun b o e=>hx' b o (Nat.ne_of_lt (Heap.lt_size e)) e
  show wpAny _ _ (assignInOrder [fun v=>bindName X.env y v,fun v=>bindName X.env x v] [u2,u1] >>= fun _=>pure Flow.next) _ _ _
  refine wpAny_bind (assignInOrder_cons (wpAny_bindName (store_ok I3 hN hj (.inl hy) rw' (fun s2 I4=>?_) (.inr hy))))
  refine assignInOrder_cons (wpAny_bindName (store_ok I4 hN hi (.inl hx) rv (fun s3 I5=>assignInOrder_nil (wpAny_pure ?_)) (.inr hx)))
  rw [List.set_comm _ _ (Ne.symm hij)] at I5
  exact ⟨_,H1,I5,q1⟩
end
section
variable {X:Cx} {pos:Pos}
def tWhile (c:TT) (tb:TS):TS:=fun D σ H=>∃ W:Nat → St → Hp → Prop,(∃ m,W m σ H) ∧ ∀ m σ H,W m σ H →
  c σ H fun b H1=>if b = true then ∃ N:St → Hp → Prop,(∀ σ' H',N σ' H' → ∃ m',m' < m ∧ W m' σ' H') ∧ tb { D with nx:=N,ct:=N,bk:=D.nx } σ H1 else D.nx σ H1
theorem ps_while {c:Expr} {body:List Stmt} {tc:TT} {tb:TS} (hp:PassesOwn (model X.prog X.w) X.A X.env X.xe) (hc:PT X c tc) (hb:PSs X body tb):PS X (.While c body [] pos) (tWhile tc tb):=by
  intro pins s σ H D I h
  obtain ⟨W,⟨m0,w0⟩,turn⟩:=h
  refine wpAny_While (codeAny_whileLoop (fun n s'=>∃ σ' H',Inv X pins σ' H' s' ∧ W n σ' H') ?_ m0 ⟨σ,H,I,w0⟩)
  rintro n s1 ⟨σ1,H1,I1,w1⟩
  refine wpAny_passesOwn hp (thn (hc pins s1 σ1 H1 _ I1 (turn n σ1 H1 w1)) fun b s2 ⟨H2,I2,q2⟩=>?_)
  cases b with
  | true =>
    obtain ⟨N,hN,q2⟩:=q2
    rw [if_pos rfl]
    refine wpAny_passesOwn hp (thn (hb pins s2 σ1 H2 _ I2 q2) fun f s3 q3=>?_)
    cases f with
    | next =>
      obtain ⟨σ3,H3,I3,n3⟩:=q3
      obtain ⟨m',hm,w3⟩:=hN σ3 H3 n3
      exact ⟨m',hm,σ3,H3,I3,w3⟩
    | cont =>
      obtain ⟨σ3,H3,I3,n3⟩:=q3
      obtain ⟨m',hm,w3⟩:=hN σ3 H3 n3
      exact ⟨m',hm,σ3,H3,I3,w3⟩
    | brk=>exact q3
    | ret v=>exact q3
  | false =>
    rw [if_neg Bool.false_ne_true]
    exact wpAny_execs_nil ⟨σ1,H2,I2,q2⟩
end
structure It where
  go:Nat → Hp → Prop
  yld:Nat → Hp → V → Hp → Prop
  stop:Nat → Hp → Prop
def FpOk (X:Cx) (pins:List (Addr × Obj)) (H:Hp) (b:Addr):Prop :=
  H b = none ∧ b ≠ X.env.locals ∧ b ∉ X.fs ∧ (b ∈ X.ex ∨ X.s₀.heap.objs.size ≤ b) ∧ (∀ x c,X.env.cells.lookup x = some c → c ≠ b) ∧ ∀ p ∈ X.pn ++ pins,p.1 ≠ b
theorem Inv.fpOk {X:Cx} {pins:List (Addr × Obj)} {σ:St} {H H':Hp} {s:Shared} {b:Addr} (I:Inv X pins σ H s) (hb:s.heap.objs.size ≤ b) (hn:H' b = none):FpOk X pins H' b:=by
  refine ⟨hn,Nat.ne_of_gt (Nat.lt_of_lt_of_le I.lt hb),I.nofs hb,.inr (Nat.le_trans I.sz hb),fun x c e z=>?_,fun p hp z=>?_⟩
  · obtain ⟨v,q⟩:=I.cell x c e
    exact absurd (Nat.lt_of_lt_of_le q.lt (by rw [z]; exact hb)) (Nat.lt_irrefl _)
  · exact absurd (Nat.lt_of_lt_of_le (Heap.lt_size (I.pin p hp).1) (by rw [z]; exact hb)) (Nat.lt_irrefl _)
structure Turn (P:Program) (w:World) (K:PySem.W.Frag) (tg:Expr) (J:It) (fp:List Addr) (it:Addr) (tn:Nat → Heap → Prop):Prop where
  mem:it ∈ fp
  obj:∀ i h,tn i h → ∀ b ∈ fp,∃ o,h.get? b = some o ∧ ∀ v,o.data ≠ .cell v
  keep:∀ i h h',tn i h → (∀ b ∈ fp,∀ o,h.get? b = some o → h'.get? b = some o) → tn i h'
  item:∀ (X:Cx),X.prog = P → X.w = w → X.K = K → X.calm = true → ∀ (i:Nat) (pins:List (Addr × Obj)) (s:Shared) (σ:St) (H:Hp) (E:Value → Shared → Prop),Inv X pins σ H s → (∀ b ∈ fp,FpOk X pins H b) → tn i s.heap → J.go i H →
    wpAny (model P w) X.A (pyNext (.ref it)) (fun r s1=>∃ u,r = some u ∧
      wpAny (model P w) X.A (letOwnedTupleGo tg (.ref it) u) (fun _ s2=>∃ x H',Inv X pins σ H' s2 ∧ RelV x u ∧ J.yld i H x H' ∧ tn (i + 1) s2.heap ∧ ∀ b ∈ fp,H' b = none) E s1) E s
  done:∀ (X:Cx),X.prog = P → X.w = w → X.K = K → X.calm = true → ∀ (i:Nat) (pins:List (Addr × Obj)) (s:Shared) (σ:St) (H:Hp) (E:Value → Shared → Prop),Inv X pins σ H s → (∀ b ∈ fp,FpOk X pins H b) → tn i s.heap → J.stop i H →
    wpAny (model P w) X.A (pyNext (.ref it)) (fun r s1=>r = none ∧ Inv X pins σ H s1) E s
  self:∀ (A:Around) (i:Nat) (s:Shared) (Q:Value → Shared → Prop) (E:Value → Shared → Prop),tn i s.heap → Q (.ref it) s → wpAny (model P w) A (pyIter (.ref it)) Q E s
abbrev TI:=St → Hp → (It → Hp → Prop) → Prop
def PIE (X:Cx) (pins:List (Addr × Obj)) (σ:St) (tg:Expr) (R:It → Hp → Prop) (itv:Value) (s2:Shared):Prop :=
  ∃ (it:Addr) (fp:List Addr) (tn:Nat → Heap → Prop) (J:It) (H':Hp),itv = .ref it ∧ Inv X pins σ H' s2 ∧ Turn X.prog X.w X.K tg J fp it tn ∧ tn 0 s2.heap ∧ (∀ b ∈ fp,FpOk X pins H' b) ∧ R J H'
def PI (X:Cx) (tg iter:Expr) (wi:TI):Prop :=
  ∀ (pins:List (Addr × Obj)) (s:Shared) (σ:St) (H:Hp) (R:It → Hp → Prop),Inv X pins σ H s → wi σ H R →
    wpAny (model X.prog X.w) X.A (eval iter X.env) (fun v s1=>wpAny (model X.prog X.w) X.A (pyIter v) (PIE X pins σ tg R) X.xe s1) X.xe s
theorem go_of {M:Model} {A:Around} {E:Value → Shared → Prop} {s:Shared} {tg:Expr} {it:Addr} {u:Value} {o:Obj} {n:String} {vs:Array Value} {Q:Unit → Shared → Prop} (ho:s.heap.get? it = some o) (hc:o.cls = .type n) (hd:o.data = .fields vs)
    (hn:["enumerate", "zip", "dict_itemiterator", "dict_reverseitemiterator", "odict_iterator", "itertools.zip_longest", "itertools.pairwise"].contains n = false) (hQ:Q () s):wpAny M A (letOwnedTupleGo tg (.ref it) u) Q E s:=by
  unfold letOwnedTupleGo
  cases tg <;> first
    | exact wpAny_pure hQ
    | (cases u <;> first
        | exact wpAny_pure hQ
        | (refine wpAny_bind (wpAny_load ho ?_)
           rw [hc,hd]
           show wpAny M A (if (["enumerate", "zip", "dict_itemiterator", "dict_reverseitemiterator", "odict_iterator", "itertools.zip_longest", "itertools.pairwise"].contains n && vs[0]? == some (rawInt _)) = true then _ else _) Q E s
           rw [if_neg (by intro h; rw [hn,Bool.false_and] at h; cases h)]
           exact wpAny_pure hQ))
def Itl (K:PySem.W.Frag) (a:Addr):It :=
  ⟨fun i H=>∃ xs x,SqL K H a xs ∧ xs[i]? = some x,fun i H x H'=>H' = H ∧ ∀ xs,SqL K H a xs → xs[i]? = some x,fun i H=>∃ xs,SqL K H a xs ∧ xs.length ≤ i⟩
def Itt (K:PySem.W.Frag) (a:Addr):It :=
  ⟨fun i H=>∃ xs x,SqT K H a xs ∧ xs[i]? = some x,fun i H x H'=>H' = H ∧ ∀ xs,SqT K H a xs → xs[i]? = some x,fun i H=>∃ xs,SqT K H a xs ∧ xs.length ≤ i⟩
def Itr (lo:Int) (n:Nat):It:=⟨fun i _=>i < n,fun i H x H'=>H' = H ∧ x = .int (lo + i),fun i _=>n ≤ i⟩
theorem turn_list {P:Program} {w:World} {K:PySem.W.Frag} {tg:Expr} (a it:Addr):Turn P w K tg (Itl K a) [it] it (fun i h=>h.IsListIter it a i) where
  mem:=by simp
  obj:=fun i h st b hb=>by
    have e:b = it:=by simpa using hb
    subst e
    obtain ⟨o,e,c,d⟩:=st
    exact ⟨o,e,fun v z=>by rw [d] at z; cases z⟩
  keep:=fun i h h' st k=>st.at fun o e=>k it (by simp) o e
  item:=by
    intro X hP hw hK hc i pins s σ H E I hf st hg
    subst hP hw hK
    obtain ⟨xs,x,hq,hx⟩:=hg
    obtain ⟨its,rv,p,hz⟩:=I.list hq
    obtain ⟨u,hu,ru⟩:=rv.get hx
    obtain ⟨f0,f1,f2,f3,f4,f5⟩:=hf it (by simp)
    refine wpAny_pyNext_list_item st p.isList (x:=u) (by simpa using hu) fun h' st' sb=>?_
    have I1:Inv X pins σ H { s with heap:=h' }:=I.turned (t':=s.toks) (fun b o hb e=>(sb.2 b hb).trans e) f0 f1 f3 f4 f5
    obtain ⟨o,e,c,d⟩:=id st'
    exact ⟨u,rfl,go_of (s:={ s with heap:=h' }) e c d (by decide) ⟨x,H,I1,ru,⟨rfl,fun ys hy=>by rw [I.list_inj hy hq]; exact hx⟩,st',fun b hb=>(hf b hb).1⟩⟩
  done:=by
    intro X hP hw hK hc i pins s σ H E I hf st hg
    subst hP hw hK
    obtain ⟨xs,hq,hx⟩:=hg
    obtain ⟨its,rv,p,hz⟩:=I.list hq
    obtain ⟨f0,f1,f2,f3,f4,f5⟩:=hf it (by simp)
    have hl:=rv.length
    exact wpAny_pyNext_list_end (I.ok.hd hc) st p.isList (by simp; omega) fun h' eb=>⟨rfl,I.turned (t':=s.toks) (fun b o hb e=>eb b o hb e) f0 f1 f3 f4 f5⟩
  self:=fun _ _ _ _ _ st h=>wpAny_pyIter_listiter st h
theorem turn_tuple {P:Program} {w:World} {K:PySem.W.Frag} {tg:Expr} (a it:Addr):Turn P w K tg (Itt K a) [it] it (fun i h=>h.IsTupleIter it a i) where
  mem:=by simp
  obj:=fun i h st b hb=>by
    have e:b = it:=by simpa using hb
    subst e
    obtain ⟨o,e,c,d⟩:=st
    exact ⟨o,e,fun v z=>by rw [d] at z; cases z⟩
  keep:=fun i h h' st k=>st.at fun o e=>k it (by simp) o e
  item:=by
    intro X hP hw hK hc i pins s σ H E I hf st hg
    subst hP hw hK
    obtain ⟨xs,x,hq,hx⟩:=hg
    obtain ⟨its,rv,p,hz⟩:=I.tuple hq
    obtain ⟨u,hu,ru⟩:=rv.get hx
    obtain ⟨f0,f1,f2,f3,f4,f5⟩:=hf it (by simp)
    refine wpAny_pyNext_tuple_item st (show s.heap.IsTuple a its.toArray from p) (x:=u) (by simpa using hu) fun h' st' sb=>?_
    have I1:Inv X pins σ H { s with heap:=h' }:=I.turned (t':=s.toks) (fun b o hb e=>(sb.2 b hb).trans e) f0 f1 f3 f4 f5
    obtain ⟨o,e,c,d⟩:=id st'
    exact ⟨u,rfl,go_of (s:={ s with heap:=h' }) e c d (by decide) ⟨x,H,I1,ru,⟨rfl,fun ys hy=>by rw [I.tuple_inj hy hq]; exact hx⟩,st',fun b hb=>(hf b hb).1⟩⟩
  done:=by
    intro X hP hw hK hc i pins s σ H E I hf st hg
    subst hP hw hK
    obtain ⟨xs,hq,hx⟩:=hg
    obtain ⟨its,rv,p,hz⟩:=I.tuple hq
    obtain ⟨f0,f1,f2,f3,f4,f5⟩:=hf it (by simp)
    have hl:=rv.length
    exact wpAny_pyNext_tuple_end (I.ok.hd hc) st (show s.heap.IsTuple a its.toArray from p) (by simp; omega) fun h' eb=>⟨rfl,I.turned (t':=s.toks) (fun b o hb e=>eb b o hb e) f0 f1 f3 f4 f5⟩
  self:=fun _ _ _ _ _ st h=>wpAny_pyIter_tupleiter st h
theorem turn_range {P:Program} {w:World} {K:PySem.W.Frag} {tg:Expr} (it:Addr) (lo:Int) (n:Nat):Turn P w K tg (Itr lo n) [it] it (fun i h=>IsRangeIter h it (lo + (i:Nat) * 1) ((n:Int) - (i:Nat)) 1) where
  mem:=by simp
  obj:=fun i h st b hb=>by
    have e:b = it:=by simpa using hb
    subst e
    exact ⟨_,st,fun v z=>by
      have z':Data.fields _ = Data.cell v:=z
      cases z'⟩
  keep:=fun i h h' st k=>k it (by simp) _ st
  item:=by
    intro X hP hw hK hc i pins s σ H E I hf st hg
    subst hP hw hK
    obtain ⟨f0,f1,f2,f3,f4,f5⟩:=hf it (by simp)
    have W:=Walks.range (prog:=X.prog) (w:=X.w) (I.ok.hd hc) it lo 1 n
    refine W.item i s _ _ hg st fun v h' tk hv st' kk=>?_
    obtain ⟨t,rfl⟩:=hv
    have I1:Inv X pins σ H { s with heap:=h',toks:=tk }:=I.turned (fun b o hb e=>kk b o (by simpa using hb) e) f0 f1 f3 f4 f5
    refine ⟨_,rfl,go_of (s:={ s with heap:=h',toks:=tk }) (n := "range_iterator") st' rfl rfl (by decide) ⟨.int (lo + i),H,I1,⟨t,?_⟩,⟨rfl,rfl⟩,st',fun b hb=>(hf b hb).1⟩⟩
    rw [Int.mul_one]
  done:=by
    intro X hP hw hK hc i pins s σ H E I hf st hg
    subst hP hw hK
    obtain ⟨f0,f1,f2,f3,f4,f5⟩:=hf it (by simp)
    exact wpAny_pyNext_range_end (I.ok.hd hc) st (by have:n ≤ i:=hg; omega) fun h' eb=>⟨rfl,I.turned (t':=s.toks) (fun b o hb e=>eb b o hb e) f0 f1 f3 f4 f5⟩
  self:=fun _ _ _ _ _ st h=>wpAny_pyIter_rangeiter st h
end L2
namespace L2
open PySem PySem.Spec PyProof.Rows
section
variable {X:Cx} {tg:Expr}
def iList (K:PySem.W.Frag) (tl:TE):TI:=fun σ H R=>tl σ H fun x H1=>∃ a,x = .ref a ∧ (∃ xs,SqL K H1 a xs) ∧ R (Itl K a) H1
def iTup (K:PySem.W.Frag) (tl:TE):TI:=fun σ H R=>tl σ H fun x H1=>∃ a,x = .ref a ∧ (∃ xs,SqT K H1 a xs) ∧ R (Itt K a) H1
theorem pi_list {l:Expr} {tl:TE} (hl:PE X l tl):PI X tg l (iList X.K tl):=by
  intro pins s σ H R I h
  refine thn (hl pins s σ H _ I h) fun v s1 ⟨x,H1,I1,r1,q1⟩=>?_
  obtain ⟨a,e,⟨xs,hq⟩,q⟩:=q1
  subst e
  cases r1
  obtain ⟨its,rv,p,hz⟩:=I1.list hq
  refine wpAny_pyIter_list p.isList ?_
  refine ⟨s1.heap.objs.size,[s1.heap.objs.size],_,_,H1,rfl,I1.kept (t':=s1.toks) fun b o e=>Heap.get?_push_of_some _ e,turn_list a _,⟨_,Heap.get?_push_size _ rfl,rfl,rfl⟩,fun b hb=>?_,q⟩
  have e:b = s1.heap.objs.size:=by simpa using hb
  subst e
  exact I1.fpOk (Nat.le_refl _) (I1.hok.fresh (Nat.le_refl _))
theorem pi_tup {l:Expr} {tl:TE} (hl:PE X l tl):PI X tg l (iTup X.K tl):=by
  intro pins s σ H R I h
  refine thn (hl pins s σ H _ I h) fun v s1 ⟨x,H1,I1,r1,q1⟩=>?_
  obtain ⟨a,e,⟨xs,hq⟩,q⟩:=q1
  subst e
  cases r1
  obtain ⟨its,rv,p,hz⟩:=I1.tuple hq
  refine wpAny_pyIter_tuple (show s1.heap.IsTuple a its.toArray from p) ?_
  refine ⟨s1.heap.objs.size,[s1.heap.objs.size],_,_,H1,rfl,I1.kept (t':=s1.toks) fun b o e=>Heap.get?_push_of_some _ e,turn_tuple a _,⟨_,Heap.get?_push_size _ rfl,rfl,rfl⟩,fun b hb=>?_,q⟩
  have e:b = s1.heap.objs.size:=by simpa using hb
  subst e
  exact I1.fpOk (Nat.le_refl _) (I1.hok.fresh (Nat.le_refl _))
theorem range_it {pins:List (Addr × Obj)} {σ:St} {H:Hp} {s:Shared} {R:It → Hp → Prop} {E:Value → Shared → Prop} {lo hi:Int} {t u v:Tok} {tk:Nat} (I:Inv X pins σ H s) (h1 : -(2 ^ 62) ≤ lo) (h2:lo < 2 ^ 62) (h3 : -(2 ^ 62) ≤ hi) (h4:hi < 2 ^ 62)
    (q:R (Itr lo (hi - lo).toNat) H):wpAny (model X.prog X.w) X.A (pyIter (.ref s.heap.objs.size)) (PIE X pins σ tg R) E { s with heap:=s.heap.push { cls:=.type "range", data:=.fields #[.int lo t,.int hi u,.int 1 v] },toks:=tk }:=by
  refine wpAny_pyIter_range (IsRange.new ..) (small_one h1 h2 h3 h4) ?_
  have I1:Inv X pins σ H { s with heap:=s.heap.push { cls:=.type "range", data:=.fields #[.int lo t,.int hi u,.int 1 v] },toks:=tk }:=I.kept fun b o e=>Heap.get?_push_of_some _ e
  refine ⟨(s.heap.push { cls:=.type "range", data:=.fields #[.int lo t,.int hi u,.int 1 v] }).objs.size,[(s.heap.push { cls:=.type "range", data:=.fields #[.int lo t,.int hi u,.int 1 v] }).objs.size],_,_,H,rfl,
    I1.kept (t':=tk) fun b o e=>Heap.get?_push_of_some _ e,turn_range _ lo (hi - lo).toNat,?_,fun b hb=>?_,q⟩
  · have e1:lo + ((0:Nat):Int) * 1 = lo:=by simp
    have e2:(((hi - lo).toNat:Nat):Int) - ((0:Nat):Int) = Builtin.Range.rangeSize lo hi 1:=by rw [rangeSize_one]; split <;> omega
    show IsRangeIter _ _ (lo + ((0:Nat):Int) * 1) ((((hi - lo).toNat:Nat):Int) - ((0:Nat):Int)) 1
    rw [e1,e2]
    exact Heap.get?_push_size _ rfl
  · have e:b = (s.heap.push { cls:=.type "range", data:=.fields #[.int lo t,.int hi u,.int 1 v] }).objs.size:=by simpa using hb
    subst e
    exact I1.fpOk (Nat.le_refl _) (I1.hok.fresh (Nat.le_refl _))
def iRng1 (ta:TA):TI:=fun σ H R=>ta σ H fun vs H1=>∃ j:Int,vs = [.int j] ∧ -(2 ^ 62) ≤ j ∧ j < 2 ^ 62 ∧ R (Itr 0 j.toNat) H1
def iRng2 (ta:TA):TI:=fun σ H R=>ta σ H fun vs H1=>∃ i j:Int,vs = [.int i,.int j] ∧ (-(2 ^ 62) ≤ i ∧ i < 2 ^ 62 ∧ -(2 ^ 62) ≤ j ∧ j < 2 ^ 62) ∧ R (Itr i (j - i).toNat) H1
theorem pi_range1 {a:Expr} {ta:TA} {p pos:Pos} (hg:Gl X "range") (hm:X.mg "range" = none) (ha:PA X [a] ta) (hs:starEach [a] X.env = [(false,eval a X.env)]:=by rfl):PI X tg (.Call (.Name "range" p) [a] [] pos) (iRng1 ta):=by
  intro pins s σ H R I h
  refine Call_ (ld_blt I hg hm boot_range (PyProof.Rows.callWith_type1 (thn (ha pos pins s σ H _ I h) fun us s1 ⟨vs,H1,I1,r1,q1⟩=>?_) hs rfl))
  obtain ⟨j,e,q1,q2,q⟩:=q1
  subst e
  cases r1 with
  | cons r rr =>
    cases rr
    obtain ⟨t,rfl⟩:=r
    exact call_range_1 (range_it I1 (by omega) (by omega) q1 q2 (by simpa using q))
theorem pi_range2 {a b:Expr} {ta:TA} {p pos:Pos} (hg:Gl X "range") (hm:X.mg "range" = none) (ha:PA X [a,b] ta) (hs:starEach [a,b] X.env = [(false,eval a X.env),(false,eval b X.env)]:=by rfl) (hs2:starEach [b] X.env = [(false,eval b X.env)]:=by rfl) :
    PI X tg (.Call (.Name "range" p) [a,b] [] pos) (iRng2 ta):=by
  intro pins s σ H R I h
  refine Call_ (ld_blt I hg hm boot_range (PyProof.Rows.callWith_type1 (thn (ha pos pins s σ H _ I h) fun us s1 ⟨vs,H1,I1,r1,q1⟩=>?_) (by rw [hs,hs2]) (by rw [hs2]; rfl)))
  obtain ⟨i,j,e,⟨q1,q2,q3,q4⟩,q⟩:=q1
  subst e
  cases r1 with
  | cons r rr =>
    cases rr with
    | cons r' rr =>
      cases rr
      obtain ⟨t,rfl⟩:=r
      obtain ⟨t',rfl⟩:=r'
      exact call_range_2 (range_it I1 q1 q2 q3 q4 q)
def tFor (wi:TI) (g:TG) (tb:TS):TS:=fun D σ H=>wi σ H fun J H1=>∃ W:Nat → Nat → St → Hp → Prop,(∃ m,W 0 m σ H1) ∧ ∀ i m σ H,W i m σ H →
  (J.stop i H ∧ D.nx σ H) ∨ (J.go i H ∧ ∃ N:St → Hp → Prop,(∀ σ' H',N σ' H' → ∃ m',m' < m ∧ W (i + 1) m' σ' H') ∧ ∀ x H',J.yld i H x H' → g x σ H' fun σ2 H2=>tb { D with nx:=N,ct:=N,bk:=D.nx } σ2 H2)
def pinsAt (fp:List Addr) (h:Heap):List (Addr × Obj):=fp.filterMap fun b=>(h.get? b).map fun o=>(b,o)
theorem mem_pinsAt {fp:List Addr} {h:Heap} {b:Addr} {o:Obj} (hb:b ∈ fp) (e:h.get? b = some o):(b,o) ∈ pinsAt fp h:=List.mem_filterMap.mpr ⟨b,hb,by rw [e]; rfl⟩
theorem of_pinsAt {fp:List Addr} {h:Heap} {p:Addr × Obj} (hp:p ∈ pinsAt fp h):p.1 ∈ fp ∧ h.get? p.1 = some p.2:=by
  obtain ⟨b,hb,e⟩:=List.mem_filterMap.mp hp
  cases q:h.get? b with
  | none=>rw [q] at e; cases e
  | some o =>
    rw [q] at e
    have e':(b,o) = p:=Option.some.inj e
    subst e'
    exact ⟨hb,q⟩
theorem Inv.pinned {pins:List (Addr × Obj)} {σ:St} {H:Hp} {s:Shared} {fp:List Addr} (I:Inv X pins σ H s) (hf:∀ b ∈ fp,FpOk X pins H b) (ho:∀ b ∈ fp,∃ o,s.heap.get? b = some o ∧ ∀ v,o.data ≠ .cell v):Inv X (pins ++ pinsAt fp s.heap) σ H s :=
  I.pins_of fun p hp=>(List.mem_append.mp hp).elim (fun z=>I.pin p (List.mem_append_right _ z)) fun z=>by
    obtain ⟨hb,e⟩:=of_pinsAt z
    obtain ⟨f0,f1,f2,_⟩:=hf p.1 hb
    obtain ⟨o,e',d⟩:=ho p.1 hb
    rw [e] at e'; cases e'
    exact ⟨e,f0,f1,f2,d⟩
theorem Inv.unpinned {pins pl:List (Addr × Obj)} {σ:St} {H:Hp} {s:Shared} (I:Inv X (pins ++ pl) σ H s):Inv X pins σ H s:=I.pins_of fun p hp=>I.pin p (List.mem_append_right _ (List.mem_append_left _ hp))
theorem ps_for {iter:Expr} {body:List Stmt} {wi:TI} {g:TG} {tb:TS} {pos:Pos} (hp:PassesOwn (model X.prog X.w) X.A X.env X.xe) (hc:X.calm = true) (hi:PI X tg iter wi) (hg:PG X tg g) (hb:PSs X body tb)
    (hs:∀ x,foldedSetIterable iter X.env x = pure x:=by intro _; rfl):PS X (.For tg iter body [] pos) (tFor wi g tb):=by
  intro pins s σ H D I h
  refine wpAny_For (thn (hi pins s σ H _ I h) fun v s1 h1=>thn h1 fun itv s2 h2=>?_) hs
  obtain ⟨it,fp,tn,J,H2,e,I2,T,st2,f2,W,⟨m0,w0⟩,turn⟩:=h2
  subst e
  have stat:∀ {H':Hp},(∀ b ∈ fp,H' b = none) → ∀ b ∈ fp,FpOk X pins H' b:=fun hn b hb=>⟨hn b hb,(f2 b hb).2⟩
  refine codeAny_forLoop_any (fun n s'=>∃ i σ' H',Inv X pins σ' H' s' ∧ tn i s'.heap ∧ (∀ b ∈ fp,H' b = none) ∧ W i n σ' H') ?_ m0 ⟨0,σ,H2,I2,st2,fun b hb=>(f2 b hb).1,w0⟩
  rintro n s3 ⟨i,σ3,H3,I3,st3,fr3,w3⟩
  rcases turn i n σ3 H3 w3 with ⟨stop,qn⟩ | ⟨go,N,hN,step⟩
  · refine wpAny_passesOwn hp (thn (T.done X rfl rfl rfl hc i pins s3 σ3 H3 X.xe I3 (stat fr3) st3 stop) fun r s4 ⟨hr,I4⟩=>?_)
    subst hr
    exact wpAny_execs_nil ⟨σ3,H3,I4,qn⟩
  · refine wpAny_passesOwn hp (thn (T.item X rfl rfl rfl hc i pins s3 σ3 H3 X.xe I3 (stat fr3) st3 go) fun r s4 ⟨u,hr,h4⟩=>?_)
    subst hr
    refine wpAny_passesOwn hp (thn h4 fun _ s5 ⟨x,H5,I5,r5,y5,st5,fr5⟩=>?_)
    have I5':=I5.pinned (stat fr5) (T.obj _ _ st5)
    refine wpAny_passesOwn hp (thn (hg _ s5 σ3 H5 x u _ I5' r5 (step x H5 y5)) fun _ s6 ⟨σ6,H6,I6,q6⟩=>?_)
    refine wpAny_passesOwn hp (thn (hb _ s6 σ6 H6 _ I6 q6) fun f s7 q7=>?_)
    have again:∀ {σ7:St} {H7:Hp},Inv X (pins ++ pinsAt fp s5.heap) σ7 H7 s7 → N σ7 H7 → ∃ m,m < n ∧ ∃ i σ' H',Inv X pins σ' H' s7 ∧ tn i s7.heap ∧ (∀ b ∈ fp,H' b = none) ∧ W i m σ' H':=fun {σ7 H7} I7 n7=>by
      obtain ⟨m',hm,w7⟩:=hN σ7 H7 n7
      refine ⟨m',hm,i + 1,σ7,H7,I7.unpinned,T.keep _ _ _ st5 fun b hb o e=>(I7.pin (b,o) (List.mem_append_right _ (List.mem_append_right _ (mem_pinsAt hb e)))).1,fun b hb=>?_,w7⟩
      obtain ⟨o,e,d⟩:=T.obj _ _ st5 b hb
      exact (I7.pin (b,o) (List.mem_append_right _ (List.mem_append_right _ (mem_pinsAt hb e)))).2.1
    cases f with
    | next=>obtain ⟨σ7,H7,I7,n7⟩:=q7; exact again I7 n7
    | cont=>obtain ⟨σ7,H7,I7,n7⟩:=q7; exact again I7 n7
    | brk=>obtain ⟨σ7,H7,I7,q7⟩:=q7; exact ⟨σ7,H7,I7.unpinned,q7⟩
    | ret v=>obtain ⟨x7,σ7,H7,I7,r7,q7⟩:=q7; exact ⟨x7,σ7,H7,I7.unpinned,r7,q7⟩
end
theorem for_list {K:PySem.W.Frag} {a:Addr} {xs:List V} {g:TG} {tb:TS} {D:Ends} {σ:St} {H:Hp} (Pv:Nat → St → Hp → Prop) (h0:Pv 0 σ H) (hl:∀ i σ H,i ≤ xs.length → Pv i σ H → SqL K H a xs)
    (hs:∀ i x σ H,xs[i]? = some x → Pv i σ H → g x σ H fun σ2 H2=>tb { D with nx:=Pv (i + 1),ct:=Pv (i + 1),bk:=D.nx } σ2 H2) (hd:∀ σ H,Pv xs.length σ H → D.nx σ H) :
    ∃ W:Nat → Nat → St → Hp → Prop,(∃ m,W 0 m σ H) ∧ ∀ i m σ H,W i m σ H →
      ((Itl K a).stop i H ∧ D.nx σ H) ∨ ((Itl K a).go i H ∧ ∃ N:St → Hp → Prop,(∀ σ' H',N σ' H' → ∃ m',m' < m ∧ W (i + 1) m' σ' H') ∧ ∀ x H',(Itl K a).yld i H x H' → g x σ H' fun σ2 H2=>tb { D with nx:=N,ct:=N,bk:=D.nx } σ2 H2):=by
  refine ⟨fun i m σ H=>m = xs.length - i ∧ i ≤ xs.length ∧ Pv i σ H,⟨xs.length,by simp,Nat.zero_le _,h0⟩,?_⟩
  rintro i m σ H ⟨rfl,hi,p⟩
  have q:=hl i σ H hi p
  by_cases hlt:i < xs.length
  · refine .inr ⟨⟨xs,xs[i],q,by simp [hlt]⟩,Pv (i + 1),fun σ' H' p'=>⟨xs.length - (i + 1),by omega,rfl,hlt,p'⟩,fun x H' y=>?_⟩
    obtain ⟨e,y⟩:=y
    subst e
    exact hs i x σ _ (y xs q) p
  · have e:i = xs.length:=by omega
    subst e
    exact .inl ⟨⟨xs,q,Nat.le_refl _⟩,hd σ H p⟩
theorem for_tup {K:PySem.W.Frag} {a:Addr} {xs:List V} {g:TG} {tb:TS} {D:Ends} {σ:St} {H:Hp} (Pv:Nat → St → Hp → Prop) (h0:Pv 0 σ H) (hl:∀ i σ H,i ≤ xs.length → Pv i σ H → SqT K H a xs)
    (hs:∀ i x σ H,xs[i]? = some x → Pv i σ H → g x σ H fun σ2 H2=>tb { D with nx:=Pv (i + 1),ct:=Pv (i + 1),bk:=D.nx } σ2 H2) (hd:∀ σ H,Pv xs.length σ H → D.nx σ H) :
    ∃ W:Nat → Nat → St → Hp → Prop,(∃ m,W 0 m σ H) ∧ ∀ i m σ H,W i m σ H →
      ((Itt K a).stop i H ∧ D.nx σ H) ∨ ((Itt K a).go i H ∧ ∃ N:St → Hp → Prop,(∀ σ' H',N σ' H' → ∃ m',m' < m ∧ W (i + 1) m' σ' H') ∧ ∀ x H',(Itt K a).yld i H x H' → g x σ H' fun σ2 H2=>tb { D with nx:=N,ct:=N,bk:=D.nx } σ2 H2):=by
  refine ⟨fun i m σ H=>m = xs.length - i ∧ i ≤ xs.length ∧ Pv i σ H,⟨xs.length,by simp,Nat.zero_le _,h0⟩,?_⟩
  rintro i m σ H ⟨rfl,hi,p⟩
  have q:=hl i σ H hi p
  by_cases hlt:i < xs.length
  · refine .inr ⟨⟨xs,xs[i],q,by simp [hlt]⟩,Pv (i + 1),fun σ' H' p'=>⟨xs.length - (i + 1),by omega,rfl,hlt,p'⟩,fun x H' y=>?_⟩
    obtain ⟨e,y⟩:=y
    subst e
    exact hs i x σ _ (y xs q) p
  · have e:i = xs.length:=by omega
    subst e
    exact .inl ⟨⟨xs,q,Nat.le_refl _⟩,hd σ H p⟩
theorem for_range {lo:Int} {n:Nat} {g:TG} {tb:TS} {D:Ends} {σ:St} {H:Hp} (Pv:Nat → St → Hp → Prop) (h0:Pv 0 σ H)
    (hs:∀ i σ H,i < n → Pv i σ H → g (.int (lo + i)) σ H fun σ2 H2=>tb { D with nx:=Pv (i + 1),ct:=Pv (i + 1),bk:=D.nx } σ2 H2) (hd:∀ σ H,Pv n σ H → D.nx σ H) :
    ∃ W:Nat → Nat → St → Hp → Prop,(∃ m,W 0 m σ H) ∧ ∀ i m σ H,W i m σ H →
      ((Itr lo n).stop i H ∧ D.nx σ H) ∨ ((Itr lo n).go i H ∧ ∃ N:St → Hp → Prop,(∀ σ' H',N σ' H' → ∃ m',m' < m ∧ W (i + 1) m' σ' H') ∧ ∀ x H',(Itr lo n).yld i H x H' → g x σ H' fun σ2 H2=>tb { D with nx:=N,ct:=N,bk:=D.nx } σ2 H2):=by
  refine ⟨fun i m σ H=>m = n - i ∧ i ≤ n ∧ Pv i σ H,⟨n,by simp,Nat.zero_le _,h0⟩,?_⟩
  rintro i m σ H ⟨rfl,hi,p⟩
  by_cases hlt:i < n
  · refine .inr ⟨hlt,Pv (i + 1),fun σ' H' p'=>⟨n - (i + 1),by omega,rfl,hlt,p'⟩,fun x H' y=>?_⟩
    obtain ⟨e,y⟩:=y
    subst e y
    exact hs i σ _ hlt p
  · have e:i = n:=by omega
    subst e
    exact .inl ⟨Nat.le_refl _,hd σ H p⟩
theorem while_by {c:TT} {tb:TS} {D:Ends} {σ:St} {H:Hp} (Pv:St → Hp → Prop) (μ:St → Hp → Nat) (h0:Pv σ H)
    (hs:∀ σ H,Pv σ H → c σ H fun b H1=>if b = true then tb { D with nx:=fun σ' H'=>Pv σ' H' ∧ μ σ' H' < μ σ H,ct:=fun σ' H'=>Pv σ' H' ∧ μ σ' H' < μ σ H,bk:=D.nx } σ H1 else D.nx σ H1)
    (mono:∀ σ H Q Q',(∀ b H1,Q b H1 → Q' b H1) → c σ H Q → c σ H Q'):tWhile c tb D σ H:=by
  refine ⟨fun m σ H=>m = μ σ H ∧ Pv σ H,⟨_,rfl,h0⟩,?_⟩
  rintro m σ H ⟨rfl,p⟩
  refine mono σ H _ _ (fun b H1 q=>?_) (hs σ H p)
  cases b with
  | true=>exact ⟨_,fun σ' H' ⟨p',l⟩=>⟨_,l,rfl,p'⟩,q⟩
  | false=>exact q
end L2
namespace L2
open PySem PySem.Spec PyProof.Rows
abbrev R2:=V → V → Hp → VK → Prop
def OpR (X:Cx) (f:Value → Value → Sem Value) (r:R2):Prop :=
  ∀ (pins:List (Addr × Obj)) (s:Shared) (σ:St) (H:Hp) (x y:V) (v u:Value) (Q:VK),Inv X pins σ H s → RelV x v → RelV y u → r x y H Q →
    wpAny (model X.prog X.w) X.A (f v u) (EP X pins σ Q) X.xe s
def UnR (X:Cx) (f:Value → Sem Value) (r:V → Hp → VK → Prop):Prop :=
  ∀ (pins:List (Addr × Obj)) (s:Shared) (σ:St) (H:Hp) (x:V) (v:Value) (Q:VK),Inv X pins σ H s → RelV x v → r x H Q →
    wpAny (model X.prog X.w) X.A (f v) (EP X pins σ Q) X.xe s
def CallR (X:Cx) (f:Value) (r:List V → Hp → VK → Prop):Prop :=
  ∀ (pins:List (Addr × Obj)) (s:Shared) (σ:St) (H:Hp) (xs:List V) (us:List Value) (Q:VK),Inv X pins σ H s → Vals xs us → r xs H Q →
    wpAny (model X.prog X.w) X.A (call f us) (EP X pins σ Q) X.xe s
def tOp (r:R2) (ta tb:TE):TE:=fun σ H Q=>ta σ H fun x H1=>tb σ H1 fun y H2=>r x y H2 Q
def tUn (r:V → Hp → VK → Prop) (ta:TE):TE:=fun σ H Q=>ta σ H fun x H1=>r x H1 Q
def rI (C:Int → Int → Prop) (g:Int → Int → V):R2:=fun x y H Q=>∃ i j,x = .int i ∧ y = .int j ∧ C i j ∧ Q (g i j) H
def rI0 (g:Int → Int → V):R2:=fun x y H Q=>∃ i j,x = .int i ∧ y = .int j ∧ Q (g i j) H
def rU (g:Int → V):V → Hp → VK → Prop:=fun x H Q=>∃ i,x = .int i ∧ Q (g i) H
section
variable {X:Cx} {a b c:Expr} {ta tb tc:TE} {pos:Pos}
theorem binT (ha:PE X a ta) (hb:PE X b tb) {pins:List (Addr × Obj)} {s:Shared} {σ:St} {H:Hp} {R:V → V → Hp → Prop} (I:Inv X pins σ H s)
    (h:ta σ H fun x H1=>tb σ H1 fun y H2=>R x y H2) {Q:Value → Shared → Prop} {f:Value → Value → Sem Value}
    (hf:∀ v u s2 x y H2,Inv X pins σ H2 s2 → RelV x v → RelV y u → R x y H2 → wpAny (model X.prog X.w) X.A (f v u) Q X.xe s2) :
    wpAny (model X.prog X.w) X.A (eval a X.env) (fun v s₁=>wpAny (model X.prog X.w) X.A (eval b X.env) (fun u s₂=>wpAny (model X.prog X.w) X.A (f v u) Q X.xe s₂) X.xe s₁) X.xe s:=by
  refine thn (ha pins s σ H _ I h) fun v s1 ⟨x,H1,I1,r1,q1⟩=>?_
  refine thn (hb pins s1 σ H1 _ I1 q1) fun u s2 ⟨y,H2,I2,r2,q2⟩=>?_
  exact hf v u s2 x y H2 I2 r1 r2 q2
theorem pe_op {op:Operator} {r:R2} (ho:OpR X (binaryOp op) r) (ha:PE X a ta) (hb:PE X b tb):PE X (.BinOp a op b pos) (tOp r ta tb):=by
  intro pins s σ H Q I h
  exact wpAny_BinOp (binT ha hb I h fun v u s2 x y H2 I2 rx ry q=>ho pins s2 σ H2 x y v u Q I2 rx ry q)
theorem pe_un {op:UnaryOp} {r:V → Hp → VK → Prop} (ho:UnR X (unaryOp op) r) (ha:PE X a ta):PE X (.UnaryOp op a pos) (tUn r ta):=by
  intro pins s σ H Q I h
  exact UnaryOp_ (thn (ha pins s σ H _ I h) fun v s1 ⟨x,H1,I1,r1,q1⟩=>ho pins s1 σ H1 x v Q I1 r1 q1)
theorem opI {f:Value → Value → Sem Value} {C:Int → Int → Prop} {g:Int → Int → Int}
    (rule:∀ (i j:Int) (t u:Tok) (s:Shared) (Q:Value → Shared → Prop) (E:Value → Shared → Prop),C i j → Q (.int (g i j) s.toks) { s with toks:=s.toks + 1 } → wpAny (model X.prog X.w) X.A (f (.int i t) (.int j u)) Q E s) :
    OpR X f (rI C fun i j=>.int (g i j)):=by
  intro pins s σ H x y v u Q I rx ry h
  obtain ⟨i,j,rfl,rfl,hc,q⟩:=h
  obtain ⟨t,rfl⟩:=rx
  obtain ⟨t',rfl⟩:=ry
  exact rule i j t t' s _ _ hc ⟨.int (g i j),H,I.tok _,⟨_,rfl⟩,q⟩
theorem opI0 {f:Value → Value → Sem Value} {g:Int → Int → Int}
    (rule:∀ (i j:Int) (t u:Tok) (s:Shared) (Q:Value → Shared → Prop) (E:Value → Shared → Prop),Q (.int (g i j) s.toks) { s with toks:=s.toks + 1 } → wpAny (model X.prog X.w) X.A (f (.int i t) (.int j u)) Q E s) :
    OpR X f (rI0 fun i j=>.int (g i j)):=by
  intro pins s σ H x y v u Q I rx ry h
  obtain ⟨i,j,rfl,rfl,q⟩:=h
  obtain ⟨t,rfl⟩:=rx
  obtain ⟨t',rfl⟩:=ry
  exact rule i j t t' s _ _ ⟨.int (g i j),H,I.tok _,⟨_,rfl⟩,q⟩
theorem opB0 {f:Value → Value → Sem Value} {g:Int → Int → Bool}
    (rule:∀ (i j:Int) (t u:Tok) (s:Shared) (Q:Value → Shared → Prop) (E:Value → Shared → Prop),Q (.bool (g i j)) s → wpAny (model X.prog X.w) X.A (f (.int i t) (.int j u)) Q E s) :
    OpR X f (rI0 fun i j=>.bl (g i j)):=by
  intro pins s σ H x y v u Q I rx ry h
  obtain ⟨i,j,rfl,rfl,q⟩:=h
  obtain ⟨t,rfl⟩:=rx
  obtain ⟨t',rfl⟩:=ry
  exact rule i j t t' s _ _ ⟨.bl (g i j),H,I,rfl,q⟩
def CDiv (i j:Int):Prop:=0 < j ∧ j < 1073741824
def CDivN (i j:Int):Prop:=j ≠ 0 ∧ j.natAbs < 1073741824
def CMul (i j:Int):Prop:=(-(2 ^ 64) < i ∧ i < 2 ^ 64) ∨ (-(2 ^ 64) < j ∧ j < 2 ^ 64)
theorem CMul.ok {i j:Int} (h:CMul i j):IntMulOk i j:=by
  rcases h with ⟨h1,h2⟩ | ⟨h1,h2⟩
  · exact .of_left (intBits_le_64 h1 h2)
  · exact .of_right (intBits_le_64 h1 h2)
theorem op_add:OpR X (binaryOp .Add) (rI0 fun i j=>.int (i + j)):=opI0 fun _ _ _ _ _ _ _ q=>add_int q
theorem op_sub:OpR X (binaryOp .Sub) (rI0 fun i j=>.int (i - j)):=opI0 fun _ _ _ _ _ _ _ q=>sub_int q
theorem op_mul:OpR X (binaryOp .Mult) (rI CMul fun i j=>.int (i * j)):=opI fun _ _ _ _ _ _ _ hc q=>mul_int q hc.ok
theorem op_fdiv:OpR X (binaryOp .FloorDiv) (rI CDiv fun i j=>.int (i / j)):=opI fun i j _ _ _ _ _ hc q=>by
  have h1:(0:Int) < j:=hc.1
  have h2:j < 1073741824:=hc.2
  exact floordiv_int (by omega) (by rw [Int.fdiv_eq_ediv_of_nonneg i (by omega)]; exact q) (.inl (PyProof.noPylong_small (by omega)))
theorem op_fdivN:OpR X (binaryOp .FloorDiv) (rI CDivN fun i j=>.int (i.fdiv j)):=opI fun _ _ _ _ _ _ _ hc q=>floordiv_int hc.1 q (.inl (PyProof.noPylong_small hc.2))
theorem op_mod:OpR X (binaryOp .Mod) (rI (fun _ j=>0 < j) fun i j=>.int (i % j)):=opI fun i j _ _ _ _ _ hc q=>by
  have h1:(0:Int) < j:=hc
  exact mod_int' (by omega) (by rw [Int.fmod_eq_emod_of_nonneg i (by omega)]; exact q)
theorem unI {f:Value → Sem Value} {g:Int → Int}
    (rule:∀ (i:Int) (t:Tok) (s:Shared) (Q:Value → Shared → Prop) (E:Value → Shared → Prop),Q (.int (g i) s.toks) { s with toks:=s.toks + 1 } → wpAny (model X.prog X.w) X.A (f (.int i t)) Q E s) :
    UnR X f (rU fun i=>.int (g i)):=by
  intro pins s σ H x v Q I rx h
  obtain ⟨i,rfl,q⟩:=h
  obtain ⟨t,rfl⟩:=rx
  exact rule i t s _ _ ⟨.int (g i),H,I.tok _,⟨_,rfl⟩,q⟩
theorem un_neg:UnR X (unaryOp .USub) (rU fun i=>.int (-i)):=unI fun _ _ _ _ _ q=>neg_int q
end
section
variable {X:Cx} {a b c:Expr} {ta tb tc:TE} {pos:Pos}
theorem op_lt:OpR X (compareOp .Lt) (rI0 fun i j=>.bl (decide (i < j))):=opB0 fun _ _ _ _ _ _ _ q=>lt_int q
theorem op_le:OpR X (compareOp .LtE) (rI0 fun i j=>.bl (decide (i ≤ j))):=opB0 fun _ _ _ _ _ _ _ q=>le_int q
theorem op_gt:OpR X (compareOp .Gt) (rI0 fun i j=>.bl (decide (j < i))):=opB0 fun _ _ _ _ _ _ _ q=>gt_int q
theorem OpR.or {f:Value → Value → Sem Value} {r r':R2} (h:OpR X f r) (h':OpR X f r'):OpR X f (fun x y H Q=>r x y H Q ∨ r' x y H Q):=by
  intro pins s σ H x y v u Q I rx ry q
  rcases q with q | q
  · exact h pins s σ H x y v u Q I rx ry q
  · exact h' pins s σ H x y v u Q I rx ry q
theorem nomark (b:Expr) {op:CmpOp} (h:op ≠ .In:=by decide) (h2:op ≠ .NotIn:=by decide):behindInMarks op b = false:=by
  have e1:(op == CmpOp.In) = false:=by cases op <;> first | rfl | exact absurd rfl h
  have e2:(op == CmpOp.NotIn) = false:=by cases op <;> first | rfl | exact absurd rfl h2
  cases b <;> simp [behindInMarks,e1,e2]
theorem pe_cmpR {op:CmpOp} {r:R2} (ho:OpR X (compareOp op) r) (ha:PE X a ta) (hb:PE X b tb) (hm:behindInMarks op b = false):PE X (.Compare a [op] [b] pos) (tOp r ta tb):=by
  intro pins s σ H Q I h
  exact wpAny_Compare1 (binT ha hb I h fun v u s2 x y H2 I2 rx ry q=>ho pins s2 σ H2 x y v u Q I2 rx ry q) hm
def tTest (t:TE):TT:=fun σ H Q=>t σ H fun x H'=>∃ k,x = .bl k ∧ Q k H'
theorem pt_cmpR {op:CmpOp} {r:R2} (ho:OpR X (compareOp op) r) (ha:PE X a ta) (hb:PE X b tb) (hm:behindInMarks op b = false):PT X (.Compare a [op] [b] pos) (tTest (tOp r ta tb)):=by
  intro pins s σ H Q I h
  refine wpAny_isTrue_Compare1 (thn (ha pins s σ H _ I h) fun v s1 ⟨x,H1,I1,r1,q1⟩=>thn (hb pins s1 σ H1 _ I1 q1) fun u s2 ⟨y,H2,I2,r2,q2⟩ =>
    thn (ho pins s2 σ H2 x y v u _ I2 r1 r2 q2) fun c s3 ⟨z,H3,I3,r3,k,e,q3⟩=>?_) hm
  subst e
  cases r3
  exact wpAny_truthy_bool ⟨H3,I3,q3⟩
def tChain (r r':R2) (ta tb tc:TE):TE:=fun σ H Q=>ta σ H fun x H1=>tb σ H1 fun y H2=>r x y H2 fun z H3=>∃ k,z = .bl k ∧
  (if k = true then tc σ H3 fun w' H4=>r' y w' H4 Q else Q (.bl false) H3)
theorem pe_chain {op op':CmpOp} {r r':R2} (ho:OpR X (compareOp op) r) (ho':OpR X (compareOp op') r') (ha:PE X a ta) (hb:PE X b tb) (hc:PE X c tc)
    (hm:lastMarks [op,op'] [b,c] = false:=by with_unfolding_all rfl):PE X (.Compare a [op,op'] [b,c] pos) (tChain r r' ta tb tc):=by
  intro pins s σ H Q I h
  refine Compare_chain (thn (ha pins s σ H _ I h) fun v s1 ⟨x,H1,I1,r1,q1⟩=>chain_link (thn (hb pins s1 σ H1 _ I1 q1) fun u s2 ⟨y,H2,I2,r2,q2⟩ =>
    thn (ho pins s2 σ H2 x y v u _ I2 r1 r2 q2) fun d s3 ⟨z,H3,I3,r3,k,e,q3⟩=>?_)) hm
  subst e
  cases r3
  refine wpAny_truthy_bool ?_
  cases k with
  | false=>exact ite_ff ⟨.bl false,H3,I3,rfl,q3⟩
  | true=>exact ite_tt (chain_last (thn (hc pins s3 σ H3 _ I3 q3) fun w' s4 ⟨z',H4,I4,r4,q4⟩=>ho' pins s4 σ H4 y z' u w' Q I4 r2 r4 q4))
theorem pt_chain {op op':CmpOp} {r r':R2} (ho:OpR X (compareOp op) r) (ho':OpR X (compareOp op') r') (ha:PE X a ta) (hb:PE X b tb) (hc:PE X c tc)
    (hm:lastMarks [op,op'] [b,c] = false:=by with_unfolding_all rfl):PT X (.Compare a [op,op'] [b,c] pos) (tTest (tChain r r' ta tb tc)):=by
  intro pins s σ H Q I h
  refine isTrue_chain (thn (ha pins s σ H _ I h) fun v s1 ⟨x,H1,I1,r1,q1⟩=>test_link (thn (hb pins s1 σ H1 _ I1 q1) fun u s2 ⟨y,H2,I2,r2,q2⟩ =>
    thn (ho pins s2 σ H2 x y v u _ I2 r1 r2 q2) fun d s3 ⟨z,H3,I3,r3,k,e,q3⟩=>?_)) hm
  subst e
  cases r3
  refine wpAny_truthy_bool ?_
  cases k with
  | false =>
    obtain ⟨k',e',q'⟩:=q3
    cases e'
    exact ite_ff ⟨H3,I3,q'⟩
  | true =>
    refine ite_tt (test_last (thn (hc pins s3 σ H3 _ I3 q3) fun w' s4 ⟨z',H4,I4,r4,q4⟩=>thn (ho' pins s4 σ H4 y z' u w' _ I4 r2 r4 q4) fun d' s5 ⟨z2,H5,I5,r5,k2,e2,q5⟩=>?_))
    subst e2
    cases r5
    exact wpAny_truthy_bool ⟨H5,I5,q5⟩
theorem line63:(sizeLine:Nat) < 2 ^ 63:=by rw [sizeLine_eq]; decide
theorem vals1 {x:V} {us:List Value} (r:Vals [x] us):∃ u,us = [u] ∧ RelV x u:=by
  cases r with
  | cons r1 r2=>cases r2; exact ⟨_,rfl,r1⟩
theorem vals2 {x y:V} {us:List Value} (r:Vals [x,y] us):∃ u w',us = [u,w'] ∧ RelV x u ∧ RelV y w':=by
  cases r with
  | cons r1 r2 =>
    cases r2 with
    | cons r3 r4=>cases r4; exact ⟨_,_,rfl,r1,r3⟩
theorem call_abs:CallR X (.builtin "abs") (fun xs H Q=>∃ i,xs = [.int i] ∧ Q (.int (if i < 0 then -i else i)) H):=by
  intro pins s σ H xs us Q I r h
  obtain ⟨i,rfl,q⟩:=h
  obtain ⟨u,rfl,t,rfl⟩:=vals1 r
  exact call_abs_int fun u tk=>⟨.int (if i < 0 then -i else i),H,I.tok _,⟨_,rfl⟩,q⟩
end
end L2
namespace L2
open PySem PySem.Spec PyProof.Rows
structure ObjM (h:Heap) (x dx C:Addr) (mA:Str → Option Value):Prop where
  obj:h.get? x = some (PySem.W.instObj C dx)
  ns:h.Ns1 dx mA
  ne:dx ≠ x
theorem lookIn_ns {h:Heap} {dx:Addr} {mA:Str → Option Value} (n:h.Ns1 dx mA):∃ od,h.get? dx = some od ∧ ∀ name,PySem.W.lookIn name od = some (mA name):=by
  obtain ⟨o,es,ep,ho,hd,hk,_,hm⟩:=n
  refine ⟨o,ho,fun name=>?_⟩
  have e:=hm name
  unfold nsFind findBy at e
  rw [← Array.find?_toList] at e
  unfold PySem.W.lookIn
  rw [hd]
  dsimp only
  split
  · rename_i y q
    rw [q] at e
    exact congrArg some e
  · rename_i q
    rw [q] at e
    have a:es.toList.any (·.refKey) = false:=by
      rw [List.any_eq_false]
      intro y hy
      obtain ⟨z,t,hkey⟩:=hk y (Array.mem_toList_iff.mp hy)
      simp [DictEntry.refKey,hkey]
    have a':¬ es.toList.any (·.refKey) = true:=by rw [a]; exact Bool.false_ne_true
    rw [if_neg a']
    exact congrArg some e
theorem ObjM.look {h:Heap} {x dx C:Addr} {mA:Str → Option Value} (I:ObjM h x dx C mA):∃ od,PySem.W.InstAt h x (PySem.W.instObj C dx) C (some od) ∧ ∀ name,PySem.W.lookIn name od = some (mA name) :=
  let ⟨od,ho,hl⟩:=lookIn_ns I.ns
  ⟨od,⟨I.obj,rfl,rfl,ho⟩,hl⟩
section
variable {prog:Program} {w:World} {A:Around} {E:Value → Shared → Prop} {s:Shared} {K:PySem.W.Frag} {x dx C f:Addr} {mA:Str → Option Value} {name:Str} {v:Value}
end
theorem RelO.some_of {v:V} {o:Option Value} (r:RelO (some v) o):∃ u,o = some u ∧ RelV v u:=by
  cases o with
  | none=>exact (show False from r).elim
  | some u=>exact ⟨u,rfl,r⟩
section
variable {P:Program} {w:World} {H H':Hp} {h h':Heap} {a C dx:Addr} {fs fs':List (Str × V)}
theorem ins_get (hok:HOk P w H h) (e:H a = some (.ins C dx fs)):∃ mA,ObjM h a dx C mA ∧ (∀ f,RelO (fs.lookup f) (mA f)) ∧ PySem.Within mA (fs.map (·.1)) ∧ fs.length ≤ 1000 ∧ H dx = some (.own a):=by
  obtain ⟨d,z,ne,ob,mA,n,r,q⟩:=(show ObjOk P w H h a (.ins C dx fs) from hok a _ e)
  exact ⟨mA,⟨ob,n,ne⟩,r,q,z,d⟩
end
structure Cls (K:PySem.W.Frag) (C:Addr):Prop where
  pg:PySem.W.plainGet K C Str.empty = true
  hd:PySem.W.hasDictIn K C = true
  po:PySem.W.plainOver K C = true
  sa:PySem.W.findIn K (.ref C) "__setattr__" = some (some (.builtin "object.__setattr__"))
theorem Cls.get {K:PySem.W.Frag} {C:Addr} (c:Cls K C) (f:Str):PySem.W.plainGet K C f = true:=c.pg
section
variable {X:Cx} {pins:List (Addr × Obj)} {σ:St} {H:Hp} {s:Shared} {a C dx:Addr} {fs:List (Str × V)} {f:Str} {v:V} {A:Around} {E:Value → Shared → Prop}
theorem Inv.made (I:Inv X pins σ H s):Inv X pins σ (upd (upd H s.heap.objs.size (.own (s.heap.objs.size + 1))) (s.heap.objs.size + 1) (.ins C s.heap.objs.size []))
    { s with heap:=(s.heap.push PySem.W.emptyDict).push (PySem.W.instObj C s.heap.objs.size) }:=by
  have e1:(s.heap.push PySem.W.emptyDict).get? s.heap.objs.size = some PySem.W.emptyDict:=Heap.get?_push_size s.heap rfl
  have e2:((s.heap.push PySem.W.emptyDict).push (PySem.W.instObj C s.heap.objs.size)).get? (s.heap.objs.size + 1) = some (PySem.W.instObj C s.heap.objs.size):=by
    have:=Heap.get?_push_size (s.heap.push PySem.W.emptyDict) (o:=PySem.W.instObj C s.heap.objs.size) rfl
    rwa [Heap.size_push] at this
  have e3:(s.heap.push PySem.W.emptyDict).Ns s.heap.objs.size (fun _=>none):=⟨PySem.W.emptyDict,#[],_,e1,rfl,(fun e he=>absurd he (by simp)),fun _=>rfl⟩
  have I1:=I.laid (a:=s.heap.objs.size) (o:=.own (s.heap.objs.size + 1)) (h':=s.heap.push PySem.W.emptyDict) (t':=s.toks) (fun b u q=>Heap.get?_push_of_some _ q) (Nat.le_refl _) ⟨_,e1⟩
  refine I1.laid (a:=s.heap.objs.size + 1) (o:=.ins C s.heap.objs.size []) (t':=s.toks) (fun b u q=>Heap.get?_push_of_some _ q) (Nat.le_of_eq (Heap.size_push _ _)) ?_
  have ne:s.heap.objs.size ≠ s.heap.objs.size + 1:=Nat.ne_of_lt (Nat.lt_succ_self _)
  refine ⟨by rw [upd_ne ne,upd_same],Nat.zero_le _,ne,e2,fun _=>none,(Heap.Ns1.of_empty e3).at fun o q=>Heap.get?_push_of_some _ q,fun _=>True.intro,fun y hy=>absurd rfl hy⟩
end
section
variable {X:Cx} {o e value:Expr} {f:Str} {pos pos' tpos:Pos} {ta tv:TE}
end
section
variable {X:Cx} {pins:List (Addr × Obj)} {σ:St} {H:Hp} {s:Shared} {A:Around} {E:Value → Shared → Prop} {Q:Value → Shared → Prop} {c:Value} {b:Bool}
inductive TyOf (K:PySem.W.Frag) (H:Hp):V → Value → Prop where
  | non:TyOf K H .non (.type "NoneType")
  | bl (x:Bool):TyOf K H (.bl x) (.type "bool")
  | int (i:Int):TyOf K H (.int i) (.type "int")
  | str (x:Str):TyOf K H (.str x) (.type "str")
  | flt (x:UInt64):TyOf K H (.flt x) (.type "float")
  | lst {a:Addr} {xs:List V} (e:H a = some (.lst xs)):TyOf K H (.ref a) (.type "list")
  | frz {a:Addr} {o:Obj} {xs:List V} (e:H a = some (.frz o (.lst xs))):TyOf K H (.ref a) (.type "list")
  | tup {a:Addr} {xs:List V} (e:H a = some (.tup xs)):TyOf K H (.ref a) (.type "tuple")
  | dK {a:Addr} {kvs:List (Key × V)} (e:H a = some (.dK kvs)):TyOf K H (.ref a) (.type "dict")
  | dT {a:Addr} {kvs:List (List Key × V)} (e:H a = some (.dT kvs)):TyOf K H (.ref a) (.type "dict")
  | ins {a C dx:Addr} {fs:List (Str × V)} (e:H a = some (.ins C dx fs)) (cl:Cls K C) (ha:PySem.W.findIn K (.ref C) "__class__" = some (some (.builtin "object.__class__")))
      (hn:PySem.W.specialIn K (.builtin "object.__class__") "__get__" = some (some (.builtin "getset_descriptor.__get__"))) (htk:PySem.W.takesIn K (.builtin "object.__class__") = some true)
      (hm:PySem.W.mroIn K C (.type "object") = some true):TyOf K H (.ref a) (.ref C)
theorem isinst_ok {x:V} {u t:Value} (I:Inv X pins σ H s) (rx:RelV x u) (ty:TyOf X.K H x t) (e:PySem.W.kitOne X.K t c = some b) (h:∀ tk,Q (.bool b) { s with toks:=tk }) :
    wpAny (model X.prog X.w) A (call (.builtin "isinstance") [u,c]) Q E s:=by
  cases ty with
  | non=>cases (show u = Value.none from rx); exact PySem.W.kia_one PySem.W.kitx_none I.kIn True.intro e (fun z=>nomatch z) h
  | bl y=>cases (show u = Value.bool y from rx); exact PySem.W.kia_one PySem.W.kitx_bool I.kIn True.intro e (fun z=>nomatch z) h
  | int i=>obtain ⟨t,q⟩:=(show ∃ t,u = Value.int i t from rx); cases q; exact PySem.W.kia_one PySem.W.kitx_int I.kIn True.intro e (fun z=>nomatch z) h
  | str y=>obtain ⟨t,q⟩:=(show ∃ t,u = Value.str y t from rx); cases q; exact PySem.W.kia_one PySem.W.kitx_str I.kIn True.intro e (fun z=>nomatch z) h
  | flt y=>obtain ⟨t,q⟩:=(show ∃ t,u = Value.float y t from rx); cases q; exact PySem.W.kia_one PySem.W.kitx_float I.kIn True.intro e (fun z=>nomatch z) h
  | @lst a xs ea =>
    cases (show u = Value.ref a from rx)
    obtain ⟨_,_,n,_,h1⟩:=(show ObjOk X.prog X.w H s.heap a (.lst xs) from I.hok a _ ea)
    exact PySem.W.kia_one PySem.W.kitx_list I.kIn ⟨_,h1,rfl⟩ e (fun z=>nomatch z) h
  | @frz a ob xs ea =>
    cases (show u = Value.ref a from rx)
    obtain ⟨_,_,_,n,_,h1⟩:=(show ObjOk X.prog X.w H s.heap a (.frz ob (.lst xs)) from I.hok a _ ea)
    exact PySem.W.kia_one PySem.W.kitx_list I.kIn ⟨_,h1,rfl⟩ e (fun z=>nomatch z) h
  | @tup a xs ea =>
    cases (show u = Value.ref a from rx)
    obtain ⟨_,_,_,p⟩:=(show ObjOk X.prog X.w H s.heap a (.tup xs) from I.hok a _ ea)
    obtain ⟨o,h1,h2,_⟩:=p
    exact PySem.W.kia_one PySem.W.kitx_tuple I.kIn ⟨o,h1,h2⟩ e (fun z=>nomatch z) h
  | @dK a kvs ea =>
    cases (show u = Value.ref a from rx)
    obtain ⟨_,_,vs,_,p⟩:=(show ObjOk X.prog X.w H s.heap a (.dK kvs) from I.hok a _ ea)
    obtain ⟨o,es,ep,h1,h2,_⟩:=p
    exact PySem.W.kia_one PySem.W.kitx_dict I.kIn ⟨o,h1,h2.1⟩ e (fun z=>nomatch z) h
  | @dT a kvs ea =>
    cases (show u = Value.ref a from rx)
    obtain ⟨_,_,xs,_,o,es,ep,h1,h2,_⟩:=(show ObjOk X.prog X.w H s.heap a (.dT kvs) from I.hok a _ ea)
    exact PySem.W.kia_one PySem.W.kitx_dict I.kIn ⟨o,h1,h2.1⟩ e (fun z=>nomatch z) h
  | @ins a C dx fs ea cl ha hn htk hm =>
    cases (show u = Value.ref a from rx)
    obtain ⟨mA,O,_⟩:=ins_get I.hok ea
    obtain ⟨od,J,_⟩:=O.look
    exact PySem.W.kia_one (PySem.W.kitx_own (cl.get _) cl.hd ha hn htk hm) I.kIn J e (fun z=>nomatch z) h
end
end L2
namespace L2
open PySem PySem.Spec PyProof.Rows
structure Room (k:Nat) (A:Around):Prop where
  hd:A.handled = none
  dp:A.depth + 3 * k + 5 < recursionLimit
  un:A.units + 16 * k + 200 < cLine
theorem Room.mono {j k:Nat} {A:Around} (r:Room k A) (h:j ≤ k):Room j A:=⟨r.hd,by have:=r.dp; omega,by have:=r.un; omega⟩
theorem Room.deeper {k:Nat} {A:Around} (r:Room (k + 1) A) (env:Env):Room k (A.deeper env) :=
  ⟨r.hd,by have:=r.dp; show A.depth + 1 + 3 * k + 5 < _; omega,by have:=r.un; show A.units + 3 + 16 * k + 200 < _; omega⟩
theorem Room.depth {k:Nat} {A:Around} (r:Room k A):A.depth < recursionLimit:=by have:=r.dp; omega
theorem Room.units0 {k:Nat} {A:Around} (r:Room k A):A.units < cLine:=by have:=r.un; omega
def tNil:TA:=fun _ H Q=>Q [] H
def tCons (ta:TE) (tr:TA):TA:=fun σ H Q=>ta σ H fun x H1=>tr σ H1 fun xs H2=>Q (x :: xs) H2
section
variable {X:Cx} {e:Expr} {es:List Expr} {te:TE} {t:TA} {pos:Pos}
theorem pa_nil:PA X [] tNil:=fun _ _ _ _ H Q I h=>Calls.spliced_nil ⟨[],H,I,.nil,h⟩
theorem pa_cons (ha:PE X e te) (hr:PA X es t) (hs:starEach (e :: es) X.env = (false,eval e X.env) :: starEach es X.env:=by rfl):PA X (e :: es) (tCons te t):=by
  intro pos pins s σ H Q I h
  rw [hs]
  show wpAny _ _ (spliced ((false,eval e X.env) :: backTo pos (starEach es X.env))) _ _ s
  refine Calls.spliced_cons (thn (ha pins s σ H _ I h) fun u s1 ⟨x,H1,I1,r1,q1⟩=>?_)
  exact thn (hr pos pins s1 σ H1 _ I1 q1) fun us s2 ⟨xs,H2,I2,r2,q2⟩=>⟨x :: xs,H2,I2,.cons r1 r2,q2⟩
def tTup (t:TA):TE:=fun σ H Q=>t σ H fun xs H1=>xs.length ≤ sizeLine ∧ ∀ p,H1 p = none → Q (.ref p) (upd H1 p (.tup xs))
def tLst (t:TA):TE:=fun σ H Q=>t σ H fun xs H1=>xs.length ≤ sizeLine ∧ ∀ p,H1 p = none → Q (.ref p) (upd H1 p (.lst xs))
theorem pe_tup {x1} (h:PA X es t):PE X (.Tuple es x1 pos) (tTup t):=by
  intro pins s σ H Q I hq
  refine wpAny_Tuple_spliced (thn (h pos pins s σ H _ I hq) fun us s1 ⟨xs,H1,I1,r,z,q⟩=>⟨by rw [← r.length]; exact z,?_⟩)
  have hf:H1 s1.heap.objs.size = none:=I1.hok.fresh (Nat.le_refl _)
  refine ⟨.ref s1.heap.objs.size,upd H1 s1.heap.objs.size (.tup xs),I1.laid (t':=s1.toks) (fun b u e=>Heap.get?_push_of_some _ e) (Nat.le_refl _) ?_,rfl,q _ hf⟩
  exact ⟨z,us,r,⟨_,Heap.get?_push_size _ rfl,rfl,_,rfl⟩⟩
theorem pe_lst (h:PA X es t):PE X (.List es pos) (tLst t):=by
  intro pins s σ H Q I hq
  refine wpAny_List_spliced (thn (h pos pins s σ H _ I hq) fun us s1 ⟨xs,H1,I1,r,z,q⟩=>⟨by rw [← r.length]; exact z,?_⟩)
  have hf:H1 s1.heap.objs.size = none:=I1.hok.fresh (Nat.le_refl _)
  refine ⟨.ref s1.heap.objs.size,upd H1 s1.heap.objs.size (.lst xs),I1.laid (t':=s1.toks) (fun b u e=>Heap.get?_push_of_some _ e) (Nat.le_refl _) ?_,rfl,q _ hf⟩
  exact ⟨z,us,0,r,Heap.get?_push_size _ rfl⟩
end
abbrev Sp:=List V → Hp → VK → XK → Prop
abbrev CXT:=List Env → Hp → Shared → XK → Value → Shared → Prop
structure Env0 (P:Program) (w:World) (K:PySem.W.Frag) (mg:Str → Option Value) (base:Heap) (A:Around) (outer:List Env) (s:Shared) (H:Hp):Prop where
  frames:A.frames = some outer
  mod:Mod K mg base
  bs:∀ b o,base.get? b = some o → s.heap.get? b = some o ∧ H b = none
  bsz:base.objs.size ≤ s.heap.objs.size
  funs:s.heap.FunFrames base outer
  frf:∀ b ∈ frs outer,H b = none
  hok:HOk P w H s.heap
  bare:AllBare s.gens
def CE (outer:List Env) (P:Program) (w:World) (H:Hp) (s:Shared) (Q:VK) (u:Value) (s':Shared):Prop :=
  ∃ v H',s'.os = s.os ∧ AllBare s'.gens ∧ Un (frs outer) [] H H' s.heap s'.heap ∧ HOk P w H' s'.heap ∧ RelV v u ∧ Q v H'
def CR (CX:CXT) (outer:List Env) (P:Program) (w:World) (H:Hp) (s:Shared) (Q:VK) (E:XK) (r:Result) (s':Shared):Prop :=
  match r with
  | .ok (.ret u)=>CE outer P w H s Q u s'
  | .ok _=>False
  | .error e=>CX outer H s E e s'
structure FnOk (P:Program) (w:World) (K:PySem.W.Frag) (mg:Str → Option Value) (base:Heap) (CX:CXT) (k:Nat) (f:Addr) (fd:FuncData) (ps:List Str) (sp:Sp):Prop where
  len:∀ vs H Q E,sp vs H Q E → vs.length = ps.length
  run:∀ (A:Around) (outer:List Env) (s:Shared) (H:Hp) (args:Args) (us:List Value) (vs:List V) (Q:VK) (E:XK),Room k A → Env0 P w K mg base A outer s H → BindsTo s fd args (ps.zip us) → Vals vs us → sp vs H Q E →
    codeAny (model P w) A (.call (.ref f) args) (CR CX outer P w H s Q E) s
theorem FnOk.mono {P:Program} {w:World} {K:PySem.W.Frag} {mg:Str → Option Value} {base:Heap} {CX:CXT} {j k:Nat} {f:Addr} {fd:FuncData} {ps:List Str} {sp:Sp} (F:FnOk P w K mg base CX j f fd ps sp) (h:j ≤ k) :
    FnOk P w K mg base CX k f fd ps sp:=⟨F.len,fun A outer s H args us vs Q E hr=>F.run A outer s H args us vs Q E (hr.mono h)⟩
section
variable {X:Cx} {pins:List (Addr × Obj)} {σ:St} {H:Hp} {s s':Shared}
theorem Inv.env0 (I:Inv X pins σ H s):Env0 X.prog X.w X.K X.mg X.base X.A X.stack s H :=
  ⟨I.ok.frames,I.ok.mod,I.bs,Nat.le_trans I.ok.bsz I.sz,I.stack,I.stkFree,I.hok,I.bare⟩
theorem Inv.after {Q:VK} {u:Value} (I:Inv X pins σ H s) (h:CE X.stack X.prog X.w H s Q u s'):EP X pins σ Q u s':=by
  obtain ⟨v,H',os,bare,un,hok,r,q⟩:=h
  obtain ⟨hh,g,d,t,os'⟩:=s'
  obtain rfl:os' = s.os:=os
  exact ⟨v,H',I.call (h':=hh) (g':=g) (d':=d) (t':=t) (ch:=[]) un hok bare (fun b z=>absurd z (by simp)),r,q⟩
end
def tCall (sp:Sp) (dvs:List V) (E:XK) (t:TA):TE:=fun σ H Q=>t σ H fun vs H1=>sp (vs ++ dvs) H1 Q E
def Binds (K:PySem.W.Frag) (fd:FuncData) (ps:List Str) (ds:List Value):Prop :=
  ∀ (s:Shared) (us:List Value),K.In s.heap → (us ++ ds).length = ps.length → BindsTo s fd ⟨us,[]⟩ (ps.zip (us ++ ds))
theorem Binds.all {K:PySem.W.Frag} {fd:FuncData} {ps:List Str} (h:∀ us:List Value,us.length = ps.length → bindArgs fd ⟨us,[]⟩ = pure (ps.zip us)):Binds K fd ps []:=fun s us _ hl=>by
  rw [List.append_nil] at hl ⊢
  exact .of_eq (h us hl)
def Passes (CX:CXT) (X:Cx) (E:XK):Prop:=∀ (pins:List (Addr × Obj)) (σ:St) (H:Hp) (s:Shared) (e:Value) (s':Shared),Inv X pins σ H s → CX X.stack H s E e s' → X.xe e s'
section
variable {X:Cx} {CX:CXT} {k:Nat} {f C:Addr} {fd:FuncData} {ps:List Str} {sp:Sp} {dvs:List V} {ds:List Value} {E:XK} {x m:Str} {p pos apos:Pos} {e o:Expr} {es:List Expr} {ta:TE} {t:TA}
theorem run_fn {pins:List (Addr × Obj)} {σ:St} {H:Hp} {s:Shared} {Q:VK} {us:List Value} {vs:List V} (F:FnOk X.prog X.w X.K X.mg X.base CX k f fd ps sp) (hr:Room k X.A) (hb:Binds X.K fd ps ds) (hd:Vals dvs ds) (hx:Passes CX X E)
    (I:Inv X pins σ H s) (r:Vals vs us) (h:sp (vs ++ dvs) H Q E):wpAny (model X.prog X.w) X.A (call (.ref f) us) (EP X pins σ Q) X.xe s:=by
  have r2:Vals (vs ++ dvs) (us ++ ds):=r.append hd
  have hl:(us ++ ds).length = ps.length:=by rw [← r2.length]; exact F.len _ _ _ _ h
  refine wpAny_call (codeAny_mono (F.run X.A X.stack s H ⟨us,[]⟩ (us ++ ds) (vs ++ dvs) Q E hr I.env0 (hb s us I.kIn hl) r2 h) fun r s' hq=>?_)
  cases r with
  | error e=>exact hx pins σ H s e s' I hq
  | ok fl =>
    cases fl with
    | ret u=>exact I.after hq
    | next=>exact False.elim hq
    | brk=>exact False.elim hq
    | cont=>exact False.elim hq
theorem pe_call (F:FnOk X.prog X.w X.K X.mg X.base CX k f fd ps sp) (hr:Room k X.A) (hg:Gl X x) (hm:X.mg x = some (.ref f)) (hk:PySem.W.keepIn X.K (.ref f) = true) (hb:Binds X.K fd ps ds) (hd:Vals dvs ds) (hx:Passes CX X E)
    (ha:PA X (e :: es) t) (hdb:(x == ("__debug__" : Str)) = false:=by decide) (he:starEach (e :: es) X.env = (false,eval e X.env) :: starEach es X.env:=by rfl) (hpl:(backTo pos (starEach es X.env)).any (·.1) = false:=by rfl) :
    PE X (.Call (.Name x p) (e :: es) [] pos) (tCall sp dvs E t):=by
  intro pins s σ H Q I h
  refine wpAny_Call_Name_kw (ld_glob I hg hm ?_ hdb)
  refine PySem.W.callWith_K (h₀:=X.base) I.ok.mod.kin hk (thn (ha pos pins s σ H _ I h) fun us s1 ⟨vs,H1,I1,r,q⟩=>⟨I1.kIn,?_⟩) he hpl
  exact run_fn F hr hb hd hx I1 r q
end
section
variable {X:Cx} {CX:CXT} {k:Nat} {f C:Addr} {fd:FuncData} {ps ks:List Str} {sp:Sp} {E:XK} {x m:Str} {p pos apos kpos:Pos} {e o:Expr} {es:List Expr} {kws:List Keyword} {te ta:TE} {t tk:TA} {nm:Option Str}
variable {g:List Value → List Value → List Value} {gV:List V → List V → List V}
end
structure FnScope (N P:List Str) (sc:Scope):Prop where
  kind:sc.kind = .function
  co:sc.isCoroutine = false
  gen:sc.isGenerator = false
  nd:N.Nodup
  pre:N.take P.length = P
  par:∀ x ∈ P,sc.names.lookup x = some .local ∨ sc.names.lookup x = some .cell
  nofree:∀ y ∈ sc.names,y.2 ≠ .free
theorem bindL_out {kindOf:Str → Option NameKind} {x:Str}:∀ {binds:List (Str × Value)} {m:Str → Option Value},(∀ v,(x,v) ∉ binds) → bindL kindOf binds m x = m x
  | [],_,_=>rfl
  | (n,v) :: r,m,h=>by
    unfold bindL
    rw [bindL_out fun w hw=>h w (List.mem_cons_of_mem _ hw)]
    split
    · have:x ≠ n:=by rintro rfl; exact h v List.mem_cons_self
      simp [this]
    · rfl
theorem bindC_out {kindOf:Str → Option NameKind} {x:Str}:∀ {binds:List (Str × Value)} {m:Str → Option Value},(∀ v,(x,v) ∉ binds) → bindC kindOf binds m x = m x
  | [],_,_=>rfl
  | (n,v) :: r,m,h=>by
    unfold bindC
    rw [bindC_out fun w hw=>h w (List.mem_cons_of_mem _ hw)]
    split
    · rfl
    · have:x ≠ n:=by rintro rfl; exact h v List.mem_cons_self
      simp [this]
theorem bindL_get {kindOf:Str → Option NameKind} {x:Str} {v:Value}:∀ {P:List Str} {vs:List Value} {i:Nat} {m:Str → Option Value},P.Nodup → P[i]? = some x → vs[i]? = some v → kindOf x = some .local →
    bindL kindOf (P.zip vs) m x = some v
  | [],_,_,_,_,h,_,_=>by simp at h
  | _ :: _,[],_,_,_,_,h,_=>by simp at h
  | p :: P,w :: vs,0,m,nd,h1,h2,hk=>by
    simp at h1 h2; subst h1; subst h2
    show bindL kindOf ((p,w) :: P.zip vs) m p = _
    unfold bindL
    rw [bindL_out fun v hv=>(List.nodup_cons.mp nd).1 (List.of_mem_zip hv).1,if_pos hk]
    simp
  | p :: P,w :: vs,i + 1,m,nd,h1,h2,hk=>by
    show bindL kindOf ((p,w) :: P.zip vs) m x = _
    unfold bindL
    exact bindL_get (i:=i) (List.nodup_cons.mp nd).2 (by simpa using h1) (by simpa using h2) hk
theorem bindC_get {kindOf:Str → Option NameKind} {x:Str} {v:Value}:∀ {P:List Str} {vs:List Value} {i:Nat} {m:Str → Option Value},P.Nodup → P[i]? = some x → vs[i]? = some v → kindOf x ≠ some .local →
    bindC kindOf (P.zip vs) m x = some v
  | [],_,_,_,_,h,_,_=>by simp at h
  | _ :: _,[],_,_,_,_,h,_=>by simp at h
  | p :: P,w :: vs,0,m,nd,h1,h2,hk=>by
    simp at h1 h2; subst h1; subst h2
    show bindC kindOf ((p,w) :: P.zip vs) m p = _
    unfold bindC
    rw [bindC_out fun v hv=>(List.nodup_cons.mp nd).1 (List.of_mem_zip hv).1,if_neg hk]
    simp
  | p :: P,w :: vs,i + 1,m,nd,h1,h2,hk=>by
    show bindC kindOf ((p,w) :: P.zip vs) m x = _
    unfold bindC
    exact bindC_get (i:=i) (List.nodup_cons.mp nd).2 (by simpa using h1) (by simpa using h2) hk
def start (N:List Str) (vs:List V):St:=vs.map some ++ List.replicate (N.length - vs.length) none
def cxOf (CX:CXT) (P:Program) (w:World) (K:PySem.W.Frag) (mg:Str → Option Value) (base:Heap) (N:List Str) (qual:Str) (scope:Scope) (f:Addr) (cd:Value) (A:Around) (outer:List Env) (s:Shared) (H:Hp) (E:XK):Cx where
  prog:=P
  w:=w
  K:=K
  mg:=mg
  base:=base
  A:=A.deeper (envOfC qual scope s.heap.objs.size f cd)
  N:=N
  s₀:=s
  H₀:=H
  env:=envOfC qual scope s.heap.objs.size f cd
  outer:=outer
  stack:=envOfC qual scope s.heap.objs.size f cd :: outer
  ex:=[]
  calm:=true
  fn:=fun _=>true
  pn:=[]
  xe:=fun e s'=>wpAny (model P w) (A.deeper (envOfC qual scope s.heap.objs.size f cd)) (leaving (envOfC qual scope s.heap.objs.size f cd) e) (fun _ s''=>CX outer H s E e s'') (fun e' s''=>CX outer H s E e' s'') s'
theorem cell_has {sc:Scope} {n:Nat} {x:Str} (h:sc.names.lookup x = some .cell):∃ c,(cellsFrom n sc.names []).lookup x = some c:=by
  have q:=PySem.W.cellsFrom_some sc.names n [] (.inl h)
  exact Option.isSome_iff_exists.mp q
theorem inv_start {CX:CXT} {P:Program} {w:World} {K:PySem.W.Frag} {mg:Str → Option Value} {base:Heap} {N ps:List Str} {qual:Str} {scope:Scope} {f:Addr} {cd:Value} {A:Around} {outer:List Env} {s s1:Shared} {H:Hp} {E:XK} {us:List Value} {vs:List V}
    (S:FnScope N ps scope) (hd:A.handled = none) (e0:Env0 P w K mg base A outer s H) (hl:vs.length = ps.length) (r:Vals vs us)
    (x:InCallC s s.heap.objs.size (bindL (envOfC qual scope s.heap.objs.size f cd).kindOf (ps.zip us) fun _=>none) (cellsFrom (s.heap.objs.size + 1) scope.names []) (bindC (envOfC qual scope s.heap.objs.size f cd).kindOf (ps.zip us) fun _=>none) s1) :
    Inv (cxOf CX P w K mg base N qual scope f cd A outer s H E) [] (start N vs) H s1:=by
  have hpl:ps.length ≤ N.length:=by have:=congrArg List.length S.pre; rw [List.length_take] at this; omega
  obtain ⟨h1,tk,rfl,hk⟩:=x.done
  have noA:∀ b:Addr,b ∉ (cxOf CX P w K mg base N qual scope f cd A outer s H E).ex:=fun b z=>absurd (show b ∈ ([]:List Addr) from z) (by simp)
  refine ⟨⟨e0.mod,S.kind,rfl,rfl,Nat.le_refl _,fun y z c h1 h2=>?_,fun y hy=>?_,fun y c _ h=>?_,fun _=>hd,Around.frames_deeper e0.frames,.inr ⟨rfl,rfl⟩,fun b z=>absurd z (noA b),e0.bs,e0.bsz,fun b _ _=>noA b,fun b z=>absurd z (noA b),e0.funs,e0.frf⟩,
    rfl,e0.bare,Un.kept hk,⟨_,x.toInCall.ns,fun i y v h1 h2 h3=>?_⟩,fun y c h=>⟨_,x.cell y c h⟩,e0.hok.fresh (Nat.le_refl _),fun y c h=>?_,fun p hp=>absurd (show p ∈ ([]:List (Addr × Obj)) from hp) (by simp),e0.hok.kept hk,?_⟩
  · exact name_of_addr x.apart (PySem.mem_of_lookup h1) (PySem.mem_of_lookup h2)
  · have hy:scope.names.lookup y = some .cell ∨ scope.names.lookup y = some .free:=hy
    rcases hy with hy | hy
    · exact cell_has hy
    · exact absurd rfl (S.nofree _ (PySem.mem_of_lookup hy))
  · exact Nat.le_of_lt (x.above y c (PySem.mem_of_lookup h))
  · have hi:i < vs.length:=by
      unfold start at h2
      by_cases hi:i < vs.length
      · exact hi
      · rw [List.getElem?_append_right (by simpa using hi)] at h2
        rw [List.getElem?_replicate] at h2
        split at h2 <;> cases h2
    have ha:vs[i]? = some v:=by
      unfold start at h2
      rw [List.getElem?_append_left (by simpa using hi),List.getElem?_map] at h2
      cases e:vs[i]? with
      | none=>rw [e] at h2; cases h2
      | some a=>rw [e] at h2; cases h2; rfl
    obtain ⟨u,hu,rv⟩:=r.get ha
    have hp:ps[i]? = some y:=by
      rw [← S.pre,List.getElem?_take_of_lt (by omega)]; exact h1
    have ndP:ps.Nodup:=by rw [← S.pre]; exact S.nd.sublist (List.take_sublist _ _)
    refine ⟨u,rv,?_⟩
    rcases S.par y (List.mem_of_getElem? hp) with k | k
    · exact .inl ⟨k,bindL_get ndP hp hu k⟩
    · obtain ⟨c,e⟩:=cell_has (n:=s.heap.objs.size + 1) k
      refine .inr ⟨.inl k,c,e,?_⟩
      have q:=x.cell y c e
      rw [bindC_get ndP hp hu (by show scope.names.lookup y ≠ _; rw [k]; decide)] at q
      exact q
  · exact e0.hok.fresh (Nat.le_of_lt (x.above y c (PySem.mem_of_lookup h)))
  · unfold start
    show _ = N.length
    rw [List.length_append,List.length_map,List.length_replicate]
    omega
theorem fn_of {CX:CXT} {P:Program} {w:World} {K:PySem.W.Frag} {mg:Str → Option Value} {base:Heap} {k:Nat} {f:Addr} {name qual:Str} {params:Arguments} {body:List Stmt} {scope:Scope} {dV kV doc pm cdv ct oc:Value} {an od:Option Addr}
    {osl:Array (Option Value)} {N ps:List Str} {sp:Sp} (lk:K.lookup f = some ⟨oc,od,.func (PySem.W.fnOf name qual params body scope dV kV doc pm an cdv ct),osl⟩) (hcd:PySem.W.codeIn K cdv qual = true) (S:FnScope N ps scope)
    (len:∀ vs H Q E,sp vs H Q E → vs.length = ps.length)
    (hbody:∀ (A:Around) (outer:List Env) (s:Shared) (H:Hp) (vs:List V) (Q:VK) (E:XK),Room k (A.deeper (envOfC qual scope s.heap.objs.size f cdv)) → sp vs H Q E →
      ∃ t,PSs (cxOf CX P w K mg base N qual scope f cdv A outer s H E) body t ∧ t { nx:=fun _ H'=>Q .non H',rt:=Q } (start N vs) H) :
    FnOk P w K mg base CX (k + 1) f (PySem.W.fnOf name qual params body scope dV kV doc pm an cdv ct) ps sp:=by
  refine ⟨len,fun A outer s H args us vs Q E hr e0 hb r hsp=>?_⟩
  have hl:=len _ _ _ _ hsp
  have KX:K.In s.heap:=e0.mod.kin.keeps fun b o e=>(e0.bs b o e).1
  have lim:s.heap.NoLimit:=e0.mod.nolimit.keeps fun b o e=>(e0.bs b o e).1
  have hkind:∀ y ∈ ps.zip us,scope.names.lookup y.1 = some .local ∨ (scope.names.lookup y.1 = some .cell ∧ ((cellsFrom (s.heap.objs.size + 1) scope.names []).lookup y.1).isSome = true):=fun ⟨n,v⟩ hy=>by
    rcases S.par n (List.of_mem_zip hy).1 with q | q
    · exact .inl q
    · exact .inr ⟨q,PySem.W.cellsFrom_some _ _ _ (.inl q)⟩
  refine codeAny_call_function hr.depth (KX _ _ lk) rfl S.co S.gen rfl (PySem.W.codeRec_of KX hcd) (hb _ _ _ _ ?_)
  refine wpAny_newFunctionEnv_cells S.kind hkind fun env he s1 x=>?_
  subst he
  refine ⟨lim.keeps x.toInCall.keep,codeAny_func ?_⟩
  obtain ⟨t,ht,hq⟩:=hbody A outer s H vs Q E (hr.deeper _) hsp
  have I:Inv (cxOf CX P w K mg base N qual scope f cdv A outer s H E) [] (start N vs) H s1:=inv_start S hr.hd e0 hl r x
  refine wpAny_mono (ht [] s1 (start N vs) H _ I hq) (fun fl s' hs=>?_) fun e s' hs=>hs
  have fin:∀ {σ':St} {H':Hp} {v:V} {u:Value},Inv (cxOf CX P w K mg base N qual scope f cdv A outer s H E) [] σ' H' s' → RelV v u → Q v H' → CE outer P w H s Q u s' :=
    fun {σ' H' v u} J rv q=>⟨v,H',J.os,J.bare,J.base,J.hok,rv,q⟩
  cases fl with
  | ret u =>
    obtain ⟨v,σ',H',J,rv,q⟩:=hs
    exact fin J rv q
  | next =>
    obtain ⟨σ',H',J,q⟩:=hs
    exact fin (v:=V.non) (u:=Value.none) J rfl q
  | brk =>
    obtain ⟨_,_,_,q⟩:=hs
    exact False.elim q
  | cont =>
    obtain ⟨_,_,_,q⟩:=hs
    exact False.elim q
end L2
namespace L2
open PySem PySem.Spec PyProof.Rows
section
variable {X:Cx} {x:Str} {p pos:Pos} {e:Expr} {es:List Expr} {t:TA} {id T:String} {r:List V → Hp → VK → Prop}
def tCB (r:List V → Hp → VK → Prop) (t:TA):TE:=fun σ H Q=>t σ H fun vs H1=>r vs H1 Q
theorem pe_callB (hc:CallR X (.builtin id) r) (hg:Gl X x) (hm:X.mg x = none) (hv:bootBuiltins x = some (.builtin id)) (ha:PA X (e :: es) t) (hn:x ≠ "__name__" := by decide) (hdb:(x == ("__debug__" : Str)) = false:=by decide)
    (he:starEach (e :: es) X.env = (false,eval e X.env) :: starEach es X.env:=by rfl) (hpl:(backTo pos (starEach es X.env)).any (·.1) = false:=by rfl):PE X (.Call (.Name x p) (e :: es) [] pos) (tCB r t):=by
  intro pins s σ H Q I h
  refine wpAny_Call_Name_kw (ld_blt I hg hm hv ?_ hn hdb)
  exact PyProof.Rows.callWith_builtin1 (thn (ha pos pins s σ H _ I h) fun us s1 ⟨vs,H1,I1,r1,q1⟩=>hc pins s1 σ H1 vs us Q I1 r1 q1) he hpl
theorem pe_callTy (hc:CallR X (.type T) r) (hg:Gl X x) (hm:X.mg x = none) (hv:bootBuiltins x = some (.type T)) (ha:PA X (e :: es) t) (hn:x ≠ "__name__" := by decide) (hdb:(x == ("__debug__" : Str)) = false:=by decide)
    (he:starEach (e :: es) X.env = (false,eval e X.env) :: starEach es X.env:=by rfl) (hpl:(backTo pos (starEach es X.env)).any (·.1) = false:=by rfl):PE X (.Call (.Name x p) (e :: es) [] pos) (tCB r t):=by
  intro pins s σ H Q I h
  refine wpAny_Call_Name_kw (ld_blt I hg hm hv ?_ hn hdb)
  exact PyProof.Rows.callWith_type1 (thn (ha pos pins s σ H _ I h) fun us s1 ⟨vs,H1,I1,r1,q1⟩=>hc pins s1 σ H1 vs us Q I1 r1 q1) he hpl
end
end L2
namespace HT
open PySem PyProof.Rows
section
open PySem.SeqAt
open PySem.AutoSeq1 (wpAny_loadPart')
open PySem.MeetsSeq PySem.MeetsSeq2 PySem.MeetsSeq3
end
section
variable {prog:Program} {w:World} {A:Around} {E:Value → Shared → Prop} {s:Shared}
def sIx (n d:Nat):Option Int → Nat
  | none=>d
  | some v=>if v < 0 then (v + (n:Int)).toNat else min v.toNat n
theorem sIx_none (n d:Nat):sIx n d none = d:=rfl
theorem sIx_nat (n d k:Nat):sIx n d (some (k:Int)) = min k n:=by
  show (if (k:Int) < 0 then ((k:Int) + (n:Int)).toNat else min (k:Int).toNat n) = min k n
  rw [if_neg (by omega),Int.toNat_natCast]
end
end HT
namespace L2
open PySem PySem.Spec PyProof.Rows
abbrev TO:=St → Hp → (Option Int → Hp → Prop) → Prop
def PO (X:Cx) (e:Option Expr) (t:TO):Prop :=
  ∀ (pins:List (Addr × Obj)) (s:Shared) (σ:St) (H:Hp) (Q:Option Int → Hp → Prop),Inv X pins σ H s → t σ H Q →
    wpAny (model X.prog X.w) X.A (evalPart e X.env) (fun u s'=>∃ o H',Inv X pins σ H' s' ∧ IsPart u o ∧ Q o H') X.xe s
def tNoPart:TO:=fun _ H Q=>Q none H
def tPart (t:TE):TO:=fun σ H Q=>t σ H fun x H1=>∃ i,x = .int i ∧ Q (some i) H1
theorem intsAre_of {ns:List Int}:∀ {us:List Value},Vals (ns.map V.int) us → IntsAre us ns:=by
  induction ns with
  | nil=>intro us r; rw [List.map_nil] at r; cases r; exact .nil
  | cons n ns ih =>
    intro us r
    rw [List.map_cons] at r
    cases r with
    | cons r1 r2 =>
      obtain ⟨t,e⟩:=r1
      subst e
      exact .cons n t (ih r2)
section
variable {X:Cx} {e:Expr} {te:TE} {lo hi:Option Expr} {tl th:TO} {pos p2:Pos}
theorem po_none:PO X none tNoPart:=by
  intro pins s σ H Q I h
  rw [evalPart_none]
  exact wpAny_pure ⟨none,H,I,.none,h⟩
theorem po_some (h:PE X e te):PO X (some e) (tPart te):=by
  intro pins s σ H Q I hw
  rw [evalPart_some]
  refine thn (h pins s σ H _ I hw) fun u s1 ⟨x,H1,I1,r1,q1⟩=>?_
  obtain ⟨i,rfl,q⟩:=q1
  obtain ⟨t,rfl⟩:=r1
  exact ⟨some i,H1,I1,.int i t,q⟩
def SlR (X:Cx) (r:V → Option Int → Option Int → Hp → VK → Prop):Prop :=
  ∀ (pins:List (Addr × Obj)) (s:Shared) (σ:St) (H:Hp) (x:V) (v vl vu:Value) (lo hi:Option Int) (sl:Addr) (Q:VK),Inv X pins σ H s → RelV x v → s.heap.IsSliceOf sl vl vu .none → IsPart vl lo → IsPart vu hi → r x lo hi H Q →
    ∃ T id,typeLookup (.type T) "__getitem__" = pure (some (.builtin id)) ∧ s.TypeIs v T ∧ wpAny (model X.prog X.w) X.A (getItem v (.ref sl)) (EP X pins σ Q) X.xe s
theorem SlR.or {r r':V → Option Int → Option Int → Hp → VK → Prop} (h:SlR X r) (h':SlR X r'):SlR X (fun x lo hi H Q=>r x lo hi H Q ∨ r' x lo hi H Q):=by
  intro pins s σ H x v vl vu lo hi sl Q I rx hs pl pu q
  rcases q with q | q
  · exact h pins s σ H x v vl vu lo hi sl Q I rx hs pl pu q
  · exact h' pins s σ H x v vl vu lo hi sl Q I rx hs pl pu q
def tSl (r:V → Option Int → Option Int → Hp → VK → Prop) (te:TE) (tl th:TO):TE:=fun σ H Q=>te σ H fun x H1=>tl σ H1 fun l H2=>th σ H2 fun u H3=>r x l u H3 Q
theorem pe_slice {r:V → Option Int → Option Int → Hp → VK → Prop} (hr:SlR X r) (he:PE X e te) (hl:PO X lo tl) (hu:PO X hi th):PE X (.Subscript e (.Slice lo hi none p2) pos) (tSl r te tl th):=by
  intro pins s σ H Q I h
  refine Subscript_ (thn (he pins s σ H _ I h) fun v s1 ⟨x,H1,I1,r1,q1⟩=>?_)
  refine wpAny_Slice (thn (hl pins s1 σ H1 _ I1 q1) fun vl s2 ⟨l,H2,I2,pl,q2⟩=>thn (hu pins s2 σ H2 _ I2 q2) fun vu s3 ⟨u,H3,I3,pu,q3⟩=>?_)
  rw [evalPart_none]
  refine wpAny_pure ?_
  have I4:Inv X pins σ H3 { s3 with heap:=s3.heap.push { cls:=.type "slice", data:=.fields #[vl,vu,.none] } }:=I3.kept (t':=s3.toks) fun b ob q=>Heap.get?_push_of_some _ q
  obtain ⟨T,id,hT,ht,hg⟩:=hr pins { s3 with heap:=s3.heap.push { cls:=.type "slice", data:=.fields #[vl,vu,.none] } } σ H3 x v vl vu l u s3.heap.objs.size Q I4 r1 (Heap.IsSliceOf.new ..) pl pu q3
  show wpAny (model X.prog X.w) X.A (subscriptTail e (.Slice lo hi none p2) v (.ref s3.heap.objs.size)) (EP X pins σ Q) X.xe { s3 with heap:=s3.heap.push { cls:=.type "slice", data:=.fields #[vl,vu,.none] } }
  exact tail_any (ops:=[.ref s3.heap.objs.size,v]) ht hT hg (by with_unfolding_all rfl)
def cutV (xs:List V) (lo hi:Option Int):List V:=(xs.drop (HT.sIx xs.length 0 lo)).take (HT.sIx xs.length xs.length hi - HT.sIx xs.length 0 lo)
theorem cutV_length (xs:List V) (lo hi:Option Int):(cutV xs lo hi).length ≤ xs.length:=by
  unfold cutV
  rw [List.length_take,List.length_drop]
  omega
end
end L2
namespace L2
open PySem PySem.Spec PyProof.Rows
def ixN (n:Nat) (i:Int):Option Nat:=if 0 ≤ i then (if i < n then some i.toNat else none) else if -(n:Int) ≤ i then some (i + n).toNat else none
def atI {α:Type} (xs:List α) (i:Int):Option α:=(ixN xs.length i).bind fun j=>xs[j]?
theorem ixN_seq {n:Nat} {i:Int} {j:Nat} (h:ixN n i = some j):seqIndex? i n = some j ∧ j < n ∧ -(n:Int) ≤ i ∧ i < n:=by
  unfold ixN at h
  by_cases h0:0 ≤ i
  · rw [if_pos h0] at h
    by_cases h1:i < n
    · rw [if_pos h1] at h
      have e:i.toNat = j:=Option.some.inj h
      exact ⟨by rw [seqIndex_of h0 h1,e],by omega,by omega,h1⟩
    · rw [if_neg h1] at h; cases h
  · rw [if_neg h0] at h
    by_cases h1 : -(n:Int) ≤ i
    · rw [if_pos h1] at h
      have e:(i + n).toNat = j:=Option.some.inj h
      exact ⟨by rw [seqIndex_neg (by omega) h1,e],by omega,h1,by omega⟩
    · rw [if_neg h1] at h; cases h
theorem atI_get {α:Type} {xs:List α} {i:Int} {v:α} (h:atI xs i = some v):∃ j,seqIndex? i xs.length = some j ∧ xs[j]? = some v ∧ j < xs.length ∧ -(xs.length:Int) ≤ i ∧ i < xs.length:=by
  unfold atI at h
  cases e:ixN xs.length i with
  | none=>rw [e] at h; cases h
  | some j =>
    rw [e] at h
    obtain ⟨h1,h2,h3,h4⟩:=ixN_seq e
    exact ⟨j,h1,h,h2,h3,h4⟩
theorem atI_nat {α:Type} {xs:List α} {j:Nat} {v:α} (h:xs[j]? = some v):atI xs (j:Int) = some v:=by
  have hj:j < xs.length:=(List.getElem?_eq_some_iff.mp h).1
  have e:ixN xs.length (j:Int) = some j:=by
    unfold ixN
    rw [if_pos (by omega),if_pos (by omega)]; simp
  unfold atI; rw [e]; exact h
def PlainIx (b:Expr):Prop:=∀ o i,subscripted b false o i = operate [o,i] (getItem o i)
def IxR (X:Cx) (r:R2):Prop :=
  ∀ (value slice:Expr) (pins:List (Addr × Obj)) (s:Shared) (σ:St) (H:Hp) (x y:V) (v u:Value) (Q:VK),Inv X pins σ H s → RelV x v → RelV y u → r x y H Q →
    subscripted slice false v u = operate [v,u] (getItem v u) → wpAny (model X.prog X.w) X.A (subscriptTail value slice v u) (EP X pins σ Q) X.xe s
def MtR (X:Cx) (id:String) (r:V → List V → Hp → VK → Prop):Prop :=
  ∀ (pins:List (Addr × Obj)) (s:Shared) (σ:St) (H:Hp) (x:V) (xs:List V) (v:Value) (us:List Value) (Q:VK),Inv X pins σ H s → RelV x v → Vals xs us → r x xs H Q →
    wpAny (model X.prog X.w) X.A (call (.builtin id) (v :: us)) (EP X pins σ Q) X.xe s
section
variable {X:Cx} {a b:Expr} {ta tb:TE} {pos:Pos}
theorem IxR.or {r r':R2} (h:IxR X r) (h':IxR X r'):IxR X (fun x y H Q=>r x y H Q ∨ r' x y H Q):=by
  intro value slice pins s σ H x y v u Q I rx ry q hs
  rcases q with q | q
  · exact h value slice pins s σ H x y v u Q I rx ry q hs
  · exact h' value slice pins s σ H x y v u Q I rx ry q hs
theorem MtR.or {id:String} {r r':V → List V → Hp → VK → Prop} (h:MtR X id r) (h':MtR X id r'):MtR X id (fun x xs H Q=>r x xs H Q ∨ r' x xs H Q):=by
  intro pins s σ H x xs v us Q I rx rs q
  rcases q with q | q
  · exact h pins s σ H x xs v us Q I rx rs q
  · exact h' pins s σ H x xs v us Q I rx rs q
theorem pe_ix {r:R2} (hr:IxR X r) (ha:PE X a ta) (hb:PE X b tb) (hs:PlainIx b):PE X (.Subscript a b pos) (tOp r ta tb):=by
  intro pins s σ H Q I h
  exact Subscript_ (binT ha hb I h fun v u s2 x y H2 I2 rx ry q=>hr a b pins s2 σ H2 x y v u Q I2 rx ry q (hs _ _))
def rIxL (K:PySem.W.Frag):R2:=fun x y H Q=>∃ p xs i v,x = .ref p ∧ y = .int i ∧ SqL K H p xs ∧ atI xs i = some v ∧ Q v H
def rIxT (K:PySem.W.Frag):R2:=fun x y H Q=>∃ p xs i v,x = .ref p ∧ y = .int i ∧ SqT K H p xs ∧ atI xs i = some v ∧ Q v H
theorem ix_list:IxR X (rIxL X.K):=by
  intro value slice pins s σ H x y v u Q I rx ry h hs
  obtain ⟨p,xs,i,z,rfl,rfl,hq,he,q⟩:=h
  cases rx
  obtain ⟨t,rfl⟩:=ry
  obtain ⟨its,r,pl,hz⟩:=I.list hq
  obtain ⟨j,h1,h2,h3,h4,h5⟩:=atI_get he
  obtain ⟨w,ew,rw'⟩:=r.get h2
  have hl:=r.length
  have hn:=line63
  have fin:EP X pins σ Q w s:=⟨z,H,I,rw',q⟩
  by_cases h0:0 ≤ i
  · have hj:i.toNat = j:=by
      rw [seqIndex_of h0 h5] at h1
      exact Option.some.inj h1
    exact item_listR pl.isList h0 (by omega) (by rw [hj]; simpa using ew) fin hs
  · have hj:(i + (its.toArray.size:Int)).toNat = j:=by
      rw [seqIndex_neg (by omega) h4] at h1
      rw [List.size_toArray,← hl]
      exact Option.some.inj h1
    exact subscriptTail_builtinR (x:=w) pl.isList.typeIs slot_list_getitem.lookup
      (wpAny_getItem_list_neg (Q:=fun r s'=>r = w ∧ EP X pins σ Q r s') pl.isList (by omega) (by rw [List.size_toArray] <;> omega) (by omega) (by rw [hj]; simpa using ew) ⟨rfl,fin⟩) hs
theorem ix_tup:IxR X (rIxT X.K):=by
  intro value slice pins s σ H x y v u Q I rx ry h hs
  obtain ⟨p,xs,i,z,rfl,rfl,hq,he,q⟩:=h
  cases rx
  obtain ⟨t,rfl⟩:=ry
  obtain ⟨its,r,pl,hz⟩:=I.tuple hq
  obtain ⟨j,h1,h2,h3,h4,h5⟩:=atI_get he
  obtain ⟨w,ew,rw'⟩:=r.get h2
  have hl:=r.length
  have hn:=line63
  have fin:EP X pins σ Q w s:=⟨z,H,I,rw',q⟩
  exact subscriptTail_builtinR (x:=w) pl.typeIs slot_tuple_getitem.lookup
    (getItem_tuple (j:=j) (Q:=fun r s'=>r = w ∧ EP X pins σ Q r s') pl (by omega) (by omega) (by rw [List.size_toArray,← hl]; exact h1) (by simpa using ew) ⟨rfl,fin⟩) hs
theorem Inv.lst {pins:List (Addr × Obj)} {σ:St} {H:Hp} {s:Shared} {p:Addr} {xs:List V} (I:Inv X pins σ H s) (h:H p = some (.lst xs)) :
    ∃ (its:List Value) (n:Nat),Vals xs its ∧ s.heap.get? p = some { cls:=.type "list", data:=.seq its.toArray n } ∧ xs.length ≤ sizeLine:=by
  obtain ⟨z,its,n,r,e⟩:=I.hok p _ h
  exact ⟨its,n,r,e,z⟩
theorem slice_bounds (lo hi:Option Int) (n:Nat):(sliceBounds lo hi none n).1 = ((HT.sIx n 0 lo:Nat):Int) ∧ (sliceBounds lo hi none n).2.1 = ((HT.sIx n n hi:Nat):Int) ∧ (sliceBounds lo hi none n).2.2 = 1:=by
  refine ⟨?_,?_,rfl⟩
  · cases lo with
    | none=>simp [sliceBounds,HT.sIx]
    | some i =>
      simp only [sliceBounds,HT.sIx,Option.getD_none,show (1:Int) > 0 by decide,if_true]
      by_cases h:i < 0
      · simp only [h,if_true] <;> omega
      · simp only [h,if_false] <;> omega
  · cases hi with
    | none=>simp [sliceBounds,HT.sIx]
    | some i =>
      simp only [sliceBounds,HT.sIx,Option.getD_none,show (1:Int) > 0 by decide,if_true]
      by_cases h:i < 0
      · simp only [h,if_true] <;> omega
      · simp only [h,if_false] <;> omega
theorem slicePick_cut (its:List Value) (lo hi:Option Int):slicePick its.toArray lo hi none = ((its.drop (HT.sIx its.length 0 lo)).take (HT.sIx its.length its.length hi - HT.sIx its.length 0 lo)).toArray:=by
  obtain ⟨h1,h2,h3⟩:=slice_bounds lo hi its.toArray.size
  unfold slicePick
  rw [h1,h2,h3]
  simp only [sliceRange_one,pick_run,List.size_toArray] <;> rfl
def rSlL (K:PySem.W.Frag):V → Option Int → Option Int → Hp → VK → Prop:=fun x lo hi H Q=>∃ a xs,x = .ref a ∧ SqL K H a xs ∧ ∀ p,H p = none → Q (.ref p) (upd H p (.lst (cutV xs lo hi)))
theorem sl_list:SlR X (rSlL X.K):=by
  intro pins s σ H x v vl vu lo hi sl Q I rx hs pl pu h
  obtain ⟨a,xs,rfl,hx,q⟩:=h
  cases rx
  obtain ⟨its,r,ht,hz⟩:=I.list hx
  have hlen:=r.length
  refine ⟨"list", _,slot_list_getitem.lookup,ht.isList.typeIs,?_⟩
  refine wpAny_getItem_list_slice ht.isList hs pl pu .none (by simp) ?_ (by rw [List.size_toArray] <;> omega)
  rw [slicePick_cut,← hlen]
  refine ⟨.ref s.heap.objs.size,_,I.laid (t':=s.toks) (o:=.lst (cutV xs lo hi)) (fun b ob q=>Heap.get?_push_of_some _ q) (Nat.le_refl _) ?_,rfl,q _ (I.hok.fresh (Nat.le_refl _))⟩
  exact ⟨Nat.le_trans (cutV_length xs lo hi) hz,_,0,(r.drop (HT.sIx xs.length 0 lo)).take (HT.sIx xs.length xs.length hi - HT.sIx xs.length 0 lo),Heap.get?_push_size _ rfl⟩
def flatV:V → Bool
  | .non=>true
  | .bl _=>true
  | .int _=>true
  | .str _=>true
  | _=>false
def eqV:V → V → Bool
  | .non,.non=>true
  | .bl a,.bl b=>a == b
  | .bl a,.int b=>(if a then 1 else 0) == b
  | .int a,.bl b=>a == (if b then 1 else 0)
  | .int a,.int b=>a == b
  | .str a,.str b=>a == b
  | _,_=>false
theorem eqAt_V {A:Around} {s:Shared} {y x:V} {u v:Value} (ry:RelV y u) (rx:RelV x v) (fy:flatV y = true) (fx:flatV x = true):SeqAt.EqAt A s u v (eqV y x):=by
  cases y with
  | non =>
    cases ry
    cases x with
    | non=>cases rx; exact SeqAt.EqAt.same _
    | bl b=>cases rx; exact SeqAt.EqAt.none_bool b
    | int b=>obtain ⟨t,rfl⟩:=rx; exact SeqAt.EqAt.none_int b t
    | str b=>obtain ⟨t,rfl⟩:=rx; exact SeqAt.EqAt.none_str b t
    | _=>exact absurd (show false = true from fx) Bool.false_ne_true
  | bl a =>
    cases ry
    cases x with
    | non=>cases rx; exact SeqAt.EqAt.bool_none a
    | bl b=>cases rx; exact SeqAt.EqAt.bool_bool a b
    | int b=>obtain ⟨t,rfl⟩:=rx; exact SeqAt.EqAt.bool_int a b t
    | str b=>obtain ⟨t,rfl⟩:=rx; exact SeqAt.EqAt.bool_str a b t
    | _=>exact absurd (show false = true from fx) Bool.false_ne_true
  | int a =>
    obtain ⟨t',rfl⟩:=ry
    cases x with
    | non=>cases rx; exact SeqAt.EqAt.int_none a t'
    | bl b=>cases rx; exact SeqAt.EqAt.int_bool a t' b
    | int b=>obtain ⟨t,rfl⟩:=rx; exact SeqAt.EqAt.int_int a t' b t
    | str b=>obtain ⟨t,rfl⟩:=rx; exact SeqAt.EqAt.int_str a t' b t
    | _=>exact absurd (show false = true from fx) Bool.false_ne_true
  | str a =>
    obtain ⟨t',rfl⟩:=ry
    cases x with
    | non=>cases rx; exact SeqAt.EqAt.str_none a t'
    | bl b=>cases rx; exact SeqAt.EqAt.str_bool a t' b
    | int b=>obtain ⟨t,rfl⟩:=rx; exact SeqAt.EqAt.str_int a t' b t
    | str b=>obtain ⟨t,rfl⟩:=rx; exact SeqAt.EqAt.str_str a t' b t
    | _=>exact absurd (show false = true from fx) Bool.false_ne_true
  | _=>exact absurd (show false = true from fy) Bool.false_ne_true
theorem call_len_seq:CallR X (.builtin "len") (fun xs H Q=>∃ p ys,xs = [.ref p] ∧ (SqL X.K H p ys ∨ SqT X.K H p ys) ∧ Q (.int ys.length) H):=by
  intro pins s σ H xs us Q I r h
  obtain ⟨p,ys,rfl,hq,q⟩:=h
  obtain ⟨u,rfl,rx⟩:=vals1 r
  cases rx
  have hn:=line63
  rcases hq with hq | hq
  · obtain ⟨its,r',pl,hz⟩:=I.list hq
    have hlen:=r'.length
    exact Calls.call_len_list pl.isList (by simp only [List.size_toArray] <;> omega) ⟨.int ys.length,H,I.tok _,⟨s.toks + 1,by rw [List.size_toArray,hlen]⟩,q⟩
  · obtain ⟨its,r',pl,hz⟩:=I.tuple hq
    have hlen:=r'.length
    exact len_tuple pl (by simp only [List.size_toArray] <;> omega) ⟨.int ys.length,H,I.tok _,⟨s.toks + 1,by rw [List.size_toArray,hlen]⟩,q⟩
theorem CallR.or {f:Value} {r r':List V → Hp → VK → Prop} (h:CallR X f r) (h':CallR X f r'):CallR X f (fun xs H Q=>r xs H Q ∨ r' xs H Q):=by
  intro pins s σ H xs us Q I rs q
  rcases q with q | q
  · exact h pins s σ H xs us Q I rs q
  · exact h' pins s σ H xs us Q I rs q
theorem call_list_of:CallR X (.type "list") (fun xs H Q=>∃ p ys,xs = [.ref p] ∧ (SqL X.K H p ys ∨ SqT X.K H p ys) ∧ ∀ l,H l = none → Q (.ref l) (upd H l (.lst ys))):=by
  intro pins s σ H xs us Q I r h
  obtain ⟨p,ys,rfl,hq,q⟩:=h
  obtain ⟨u,rfl,rx⟩:=vals1 r
  cases rx
  have fin:∀ (its:List Value),Vals ys its → ys.length ≤ sizeLine → ∀ (h':Heap) (c':Nat),(∀ b o',s.heap.get? b = some o' → h'.get? b = some o') →
      h'.get? s.heap.objs.size = some { cls:=.type "list", dict:=none,data:=.seq its.toArray c',slots:=#[] } → EP X pins σ Q (.ref s.heap.objs.size) { s with heap:=h' }:=fun its r' hz h' c' kp e =>
    ⟨.ref s.heap.objs.size,_,I.laid (t':=s.toks) kp (Nat.le_refl _) (show ObjOk X.prog X.w _ h' _ (.lst ys) from ⟨hz,its,c',r',e⟩),rfl,q _ (I.hok.fresh (Nat.le_refl _))⟩
  rcases hq with hq | hq
  · obtain ⟨its,r',pl,hz⟩:=I.list hq
    have hlen:=r'.length
    obtain ⟨o,ho,hc,n,hd⟩:=pl.isList
    exact call_list_seq p (.inl rfl) ho hc hd (fun h' c' kp e=>fin its r' hz h' c' kp e) (by simp only [List.size_toArray] <;> omega)
  · obtain ⟨its,r',pl,hz⟩:=I.tuple hq
    have hlen:=r'.length
    obtain ⟨o,ho,hc,n,hd⟩:=pl
    exact call_list_seq p (.inr rfl) ho hc hd (fun h' c' kp e=>fin its r' hz h' c' kp e) (by simp only [List.size_toArray] <;> omega)
def tyV (K:PySem.W.Frag) (T:String) (x:V) (H:Hp):Prop:=match x with
  | .str _=>T = "str"
  | .int _=>T = "int"
  | .ref p=>(T = "list" ∧ ∃ xs,SqL K H p xs) ∨ (T = "tuple" ∧ ∃ o,K.lookup p = some o ∧ o.cls = .type "tuple" ∧ o.dict = none) ∨
      (T = "dict" ∧ ((∃ kvs,H p = some (.dK kvs)) ∨ ∃ kvs,H p = some (.dT kvs))) ∨ (T = "set" ∧ ∃ S n,H p = some (.set S n))
  | _=>False
theorem tyV_is {pins:List (Addr × Obj)} {σ:St} {H:Hp} {s:Shared} {T:String} {x:V} {v:Value} (I:Inv X pins σ H s) (r:RelV x v) (ty:tyV X.K T x H) :
    s.TypeIs v T ∧ ∀ a,v = .ref a → ∃ ob,s.heap.get? a = some ob ∧ ob.dict = none:=by
  cases x with
  | str z =>
    obtain ⟨t,rfl⟩:=r
    cases (show T = "str" from ty)
    exact ⟨typeIs_str s z t,fun _ e=>nomatch e⟩
  | int i =>
    obtain ⟨t,rfl⟩:=r
    cases (show T = "int" from ty)
    exact ⟨typeIs_int s i t,fun _ e=>nomatch e⟩
  | ref p =>
    cases r
    rcases ty with ⟨rfl,xs,hq⟩ | ⟨rfl,o,hk,hc,hd⟩ | ⟨rfl,hk⟩ | ⟨rfl,S,n,hk⟩
    · obtain ⟨its,_,pl,_⟩:=I.list hq
      refine ⟨pl.isList.typeIs,fun a e=>?_⟩
      cases e
      obtain ⟨o,n,e,c,hd,_⟩:=pl
      exact ⟨o,e,hd⟩
    · refine ⟨⟨o,I.kIn p o hk,hc⟩,fun a e=>?_⟩
      cases e
      exact ⟨o,I.kIn _ o hk,hd⟩
    · have z:∃ o,s.heap.get? p = some o ∧ o.ExactDict:=by
        rcases hk with ⟨kvs,hk⟩ | ⟨kvs,hk⟩
        · obtain ⟨_,_,_,_,o,_,_,e,ex,_⟩:=I.hok p _ hk
          exact ⟨o,e,ex⟩
        · obtain ⟨_,_,_,_,o,_,_,e,ex,_⟩:=I.hok p _ hk
          exact ⟨o,e,ex⟩
      obtain ⟨o,e,ex⟩:=z
      refine ⟨⟨o,e,ex.1⟩,fun a e2=>?_⟩
      cases e2
      exact ⟨o,e,ex.2.1⟩
    · obtain ⟨o,_,_,_,e,ex,_⟩:=I.hok p _ hk
      refine ⟨⟨o,e,ex.1⟩,fun a e2=>?_⟩
      cases e2
      exact ⟨o,e,ex.2.1⟩
  | _=>exact False.elim ty
def tBM (K:PySem.W.Frag) (T:String) (r:V → List V → Hp → VK → Prop) (to:TE) (t:TA):TE:=fun σ H Q=>to σ H fun x H1=>tyV K T x H1 ∧ t σ H1 fun xs H2=>r x xs H2 Q
variable {o e:Expr} {es:List Expr} {to:TE} {t:TA} {name:Str} {apos cpos:Pos} {T id:String} {r:V → List V → Hp → VK → Prop}
theorem pe_bm (pa:PlainAttrs T) (slot:Slot T name id) (hty:typeOf (.builtin id) = pure (.type "method_descriptor")) (hm:MtR X id r) (ho:PE X o to) (ha:PA X (e :: es) t)
    (hbase:attributeBase o name X.env (eval o X.env) = eval o X.env:=by rfl)
    (hfew:((backTo cpos (starEach (e :: es) X.env)).all (fun x=>!x.1) && (backToKw cpos (keywordEach [] X.env)).all (fun x=>x.1.isSome)
      && decide ((e :: es).length + ([]:List Keyword).length + (if ([]:List Keyword).isEmpty then 0 else 1) < 30)) = true:=by rfl)
    (hline:(apos.endLine == cpos.line) = true:=by rfl) (hs:starEach (e :: es) X.env = (false,eval e X.env) :: starEach es X.env:=by rfl) (hplain:(backTo cpos (starEach es X.env)).any (·.1) = false:=by rfl) :
    PE X (.Call (.Attribute o name apos) (e :: es) [] cpos) (tBM X.K T r to t):=by
  intro pins s σ H Q I h
  refine wpAny_Call_method_late hbase hfew hline rfl (thn (ho pins s σ H _ I h) fun v s1 ⟨x,H1,I1,r1,ty,q1⟩=>?_)
  obtain ⟨h1,h2⟩:=tyV_is I1 r1 ty
  refine ⟨T,id,pa,slot,hty,h1,h2,?_⟩
  have hA:=ha cpos pins s1 σ H1 _ I1 q1
  rw [hs] at hA ⊢
  refine Calls.callWith_builtin (by show (false || (backTo cpos (starEach es X.env)).any (·.1)) = false; rw [hplain] <;> rfl) (Calls.evalArgs_plain ?_)
  exact thn hA fun us s2 ⟨vs,H2,I2,r2,q2⟩=>hm pins s2 σ H2 x vs v us Q I2 r1 r2 q2
/- xs.append(e),list.index on a module's tuple .. are MtR facts of 06m -/
end
end L2
namespace L2
open PySem PySem.Spec PyProof.Rows
def MtM (X:Cx) (id:String) (r:V → List V → Hp → VK → Prop):Prop :=
  ∀ (pins:List (Addr × Obj)) (s:Shared) (σ:St) (H:Hp) (x:V) (xs:List V) (v:Value) (us:List Value) (Q:VK),Inv X pins σ H s → RelV x v → Vals xs us → r x xs H Q →
    wpAny (model X.prog X.w) X.A (call (.builtin id) (v :: us)) (EP X pins σ Q) X.xe s
theorem Vals.one:∀ {x:V} {us:List Value},Vals [x] us → ∃ u,us = [u] ∧ RelV x u
  | _,_,.cons r .nil=>⟨_,rfl,r⟩
theorem Vals.two:∀ {x y:V} {us:List Value},Vals [x,y] us → ∃ u v,us = [u,v] ∧ RelV x u ∧ RelV y v
  | _,_,_,.cons r (.cons q .nil)=>⟨_,_,rfl,r,q⟩
theorem Vals.zero:∀ {us:List Value},Vals [] us → us = []
  | _,.nil=>rfl
theorem Vals.reverse {xs:List V} {us:List Value} (h:Vals xs us):Vals xs.reverse us.reverse:=by
  induction h with
  | nil=>exact .nil
  | cons r t ih=>rw [List.reverse_cons,List.reverse_cons]; exact Vals.append ih (.cons r .nil)
theorem Vals.rep {xs:List V} {us:List Value} (h:Vals xs us):∀ k:Nat,Vals (List.replicate k xs).flatten (List.replicate k us).flatten
  | 0=>.nil
  | k + 1=>by
    rw [List.replicate_succ,List.replicate_succ,List.flatten_cons,List.flatten_cons]
    exact Vals.append h (Vals.rep h k)
section
variable {X:Cx} {pins:List (Addr × Obj)} {σ:St} {H:Hp} {s:Shared} {l b:Addr} {xs ys zs:List V}
theorem Inv.lset {its its':List Value} {n:Nat} {f:Array Value → Array Value} {t':Nat} (I:Inv X pins σ H s) (hH:H l = some (.lst xs))
    (e:s.heap.get? l = some { cls:=.type "list", data:=.seq its.toArray n }) (hf:f its.toArray = its'.toArray) (hv:Vals ys its') (hz:ys.length ≤ sizeLine) :
    Inv X pins σ (upd H l (.lst ys)) { s with heap:=s.heap.update l (Obj.mapSeq f),toks:=t' }:=by
  have q:=PySem.IsL.update e f
  rw [hf] at q
  refine I.write (x:=l) (e:=l) (by rw [hH]; exact trivial) (.inl rfl) (fun b' u hb hu=>(Heap.get?_update_other s.heap (Obj.mapSeq f) (Ne.symm hb)).trans hu) ⟨_,q⟩ ?_
  exact ⟨hz,its',_,hv,q⟩
theorem Inv.lnew {its:List Value} {t':Nat} (I:Inv X pins σ H s) (hv:Vals ys its) (hz:ys.length ≤ sizeLine) :
    Inv X pins σ (upd H s.heap.objs.size (.lst ys)) { s with heap:=s.heap.push { cls:=.type "list", data:=.seq its.toArray },toks:=t' } :=
  I.laid (fun _ _ q=>Heap.get?_push_of_some _ q) (Nat.le_refl _) ⟨hz,its,0,hv,Heap.get?_push_size _ rfl⟩
theorem Inv.fresh (I:Inv X pins σ H s):H s.heap.objs.size = none:=I.hok.fresh (Nat.le_refl _)
theorem Inv.lstM (I:Inv X pins σ H s) (hH:H l = some (.lst xs)):xs.length ≤ sizeLine ∧ ∃ (its:List Value) (n:Nat),Vals xs its ∧ xs.length = its.length ∧ s.heap.get? l = some { cls:=.type "list", data:=.seq its.toArray n }:=by
  obtain ⟨z,its,n,r,e⟩:=I.hok l _ hH
  exact ⟨z,its,n,r,r.length,e⟩
theorem notLongL {n:Nat} (h:n ≤ sizeLine):Builtin.List.listTooLong n = false:=by
  unfold Builtin.List.listTooLong
  exact decide_eq_false (by omega)
end
section
variable {X:Cx}
def rAppend:V → List V → Hp → VK → Prop:=fun x vs H Q=>∃ l xs y,x = .ref l ∧ vs = [y] ∧ H l = some (.lst xs) ∧ xs.length < sizeLine ∧ Q .non (upd H l (.lst (xs ++ [y])))
theorem mt_append:MtM X "list.append" rAppend:=by
  intro pins s σ H x vs v us Q I rx rv h
  obtain ⟨l,xs,y,rfl,rfl,hH,hz,q⟩:=h
  cases rx
  obtain ⟨u,rfl,ru⟩:=rv.one
  obtain ⟨z,its,n,r,hl,e⟩:=I.lstM hH
  refine call_meets F.slot_list_append ⟨_,e,rfl⟩ F.entry_list_append (F.args_list_append_2 _ _) (PySem.list_append l its.toArray n u (by rw [List.size_toArray]; omega)) ⟨e,?_⟩
  refine ⟨.non,_,I.lset (its':=its ++ [u]) hH e (by simp) (r.append (.cons ru .nil)) ?_,rfl,q⟩
  rw [List.length_append,List.length_singleton]
  omega
def rExtend:V → List V → Hp → VK → Prop:=fun x vs H Q=>∃ l b xs zs,x = .ref l ∧ vs = [.ref b] ∧ H l = some (.lst xs) ∧ H b = some (.lst zs) ∧ xs.length + zs.length ≤ sizeLine ∧ Q .non (upd H l (.lst (xs ++ zs)))
theorem mt_extend:MtM X "list.extend" rExtend:=by
  intro pins s σ H x vs v us Q I rx rv h
  obtain ⟨l,b,xs,zs,rfl,rfl,hH,hB,hz,q⟩:=h
  cases rx
  obtain ⟨u,rfl,ru⟩:=rv.one
  cases ru
  obtain ⟨z,its,n,r,hl,e⟩:=I.lstM hH
  obtain ⟨z2,its2,n2,r2,hl2,e2⟩:=I.lstM hB
  have hsz:its.toArray.size + its2.toArray.size ≤ sizeLine:=by rw [List.size_toArray,List.size_toArray]; omega
  have hlong:¬ (!its.toArray.isEmpty && Builtin.List.listTooLong (its.toArray.size + its2.toArray.size)) = true:=by
    rw [notLongL hsz,Bool.and_false]
    exact Bool.false_ne_true
  refine call_meets F.slot_list_extend ⟨_,e,rfl⟩ F.entry_list_extend (F.args_list_extend_2 _ _)
    (AutoSeq1.list_extend_list_list_0 l its.toArray n b its2.toArray n2 hlong (by rw [List.size_toArray]; omega) (by omega)) ⟨e,e2,?_⟩
  refine ⟨.non,_,I.lset (its':=its ++ its2) hH e (by simp) (r.append r2) ?_,rfl,q⟩
  rw [List.length_append]
  omega
def rCat:R2:=fun x y H Q=>∃ l b xs zs,x = .ref l ∧ y = .ref b ∧ H l = some (.lst xs) ∧ H b = some (.lst zs) ∧ xs.length + zs.length ≤ sizeLine ∧ ∀ p,H p = none → Q (.ref p) (upd H p (.lst (xs ++ zs)))
theorem op_cat:OpR X (binaryOp .Add) rCat:=by
  intro pins s σ H x y v u Q I rx ry h
  obtain ⟨l,b,xs,zs,rfl,rfl,hH,hB,hz,q⟩:=h
  cases rx
  cases ry
  obtain ⟨z,its,n,r,hl,e⟩:=I.lstM hH
  obtain ⟨z2,its2,n2,r2,hl2,e2⟩:=I.lstM hB
  refine PySem.P.add_list e e2 ?_ (by rw [List.size_toArray,List.size_toArray]; omega)
  have ea:its.toArray ++ its2.toArray = (its ++ its2).toArray:=by simp
  rw [ea]
  exact ⟨.ref _,_,I.lnew (t':=s.toks) (r.append r2) (by rw [List.length_append]; omega),rfl,q _ I.fresh⟩
end
section
variable {prog:Program} {w:World} {A:Around} {E:Value → Shared → Prop} {s:Shared}
end
section
variable {X:Cx}
end
end L2
namespace Att
open PySem PySem.W PySem.Calls PyProof.Rows
theorem ints_of_wellAll {P:Params} {h:Heap}:∀ (ns:List Int) (vs:List Value),WellAll P h vs (ns.map WData.int) → IntsAre vs ns:=by
  intro ns
  induction ns with
  | nil =>
    intro vs w
    rw [List.map_nil] at w
    cases w
    exact .nil
  | cons n ns ih =>
    intro vs w
    rw [List.map_cons] at w
    cases w with
    | cons a b =>
      cases a
      exact .cons _ _ (ih _ b)
theorem script_of {l:OpenLaw} {n:Nat} (hn:l.most = some n) {P:Params} {h:Heap} {args:List WData} {vals:List Value}
    (hpre:l.row.toRowW.claim.pre args = true) (hwl:WellAll P h vals args) :
    ∃ a vs ns,vals = [Value.ref a] ∧ args = [WData.list (ns.map WData.int)] ∧ h.get? a = some { cls:=.type "list", data:=.seq vs.toArray } ∧ IntsAre vs ns ∧ ns.length ≤ n:=by
  have hsh:WShape.hasAll [] args [.list .int] = true:=(pre_splitW hpre).1
  have hc:l.pre.holds [] { args:=args } = true:=(pre_splitW hpre).2
  obtain ⟨d,r,rfl,h1,h2⟩:=hasAllW_cons hsh
  obtain rfl:=hasAllW_nil h2
  obtain ⟨xs,rfl,h3⟩:=hasW_list h1
  obtain ⟨ns,rfl⟩:=items_int h3
  have hlen:ns.length ≤ n:=by
    unfold OpenLaw.pre at hc
    have h4:(WTm.not (.lt (.lit (.int (n:Int))) (.len (.arg 0)))).holds [] { args:=[.list (ns.map .int)] } = true:=by
      have h4:=(holds_andW hc).1
      rw [hn] at h4
      exact h4
    have h5:=condW_of h4 (w_not (w_lt w_lit (w_len_list (w_arg rfl))))
    rw [List.length_map] at h5
    refine Nat.le_of_not_lt fun q=>?_
    have q':(n:Int) < ((ns.length:Nat):Int):=by omega
    first
      | (rw [decide_eq_true q'] at h5; exact absurd h5 (by decide))
      | (simp at h5; omega)
  cases hwl with
  | cons w1 w2 =>
    cases w2
    cases w1 with
    | list ho hall=>exact ⟨_,_,ns,rfl,rfl,ho,ints_of_wellAll ns _ hall,hlen⟩
theorem post_true (l:OpenLaw) (args:List WData):l.row.toRowW.claim.post args (.bool true) args = true :=
  postW_of (r:=l.row.toRowW) (X:=(true == true))
    (show WShape.has [] (.bool true) .bool = true by first | rfl | decide | simp [WShape.has,WShape.arms,WShape.armsAll])
    (show (WTm.eq .res (.lit (.bool true))).value [] { args:=args,res:=some (.bool true),after:=args } = some (.bool (true == true)) from w_eq_bool (w_res rfl) w_lit) rfl
theorem attach_call {l:OpenLaw} {n:Nat} {q:Program} {loose:List Str} {XP:(Str → Option Value) → Heap → Prop} {YP:World → Heap → Prop} {d:DefRec}
    (hn:l.most = some n) (hdf:d.params.defaults = [])
    (call:∀ (w:World) (s₀ s₁:Shared) (mg mb:Str → Option Value) (fa:Addr) (o:Obj) (pm cd doc:Value) (a:Addr) (vs:List Value) (ns:List Int),
      Ground q loose [] XP w s₀ mg mb s₁.heap → YP w s₁.heap →
      s₁.heap.get? fa = some o → o.data = .func (docDef d.name d.params d.body d.scope pm cd doc) → s₁.heap.CodeRec cd d.name → mg d.name = some (.ref fa) →
      s₁.heap.get? a = some { cls:=.type "list", data:=.seq vs.toArray } → IntsAre vs ns → ns.length ≤ n → s₁.gens = #[] →
      codeAny (model l.prog w) callerA (.call (.ref fa) ⟨[.ref a],[]⟩) (fun r s'=>r = .ok (.ret (.bool true)) ∧ OldK s₁.heap s'.heap ∧ s'.os = s₁.os ∧ AllBare s'.gens) s₁) :
    WalkO q loose XP YP l.row.toRowW d [] (fun f vs=>PySem.call f vs):=by
  intro w s₀ s₁ mg mb G Y fa o pm cd doc dV kV ho hd hcd hD hmg hg args vals as hpre hlay hrd hwl hlo
  obtain rfl:dV = .none:=Dflts.none hD hdf
  obtain rfl:kV = .none:=Dflts.noKw hD
  obtain ⟨a,vs,ns,rfl,rfl,hobj,hints,hlen⟩:=script_of hn hpre hwl
  refine enter_call (codeAny_mono (call w s₀ s₁ mg mb fa o pm cd doc a vs ns G Y ho (fd_plain hd) hcd hmg hobj hints hlen hg) fun r s' hq=>?_)
  obtain ⟨rfl,h2,h3,h4⟩:=hq
  exact ⟨.inl ⟨.bool true,.bool true,[],rfl,fun _=>rfl,.bool true,post_true l _,fun _=>⟨List.Pairwise.nil,fun _ hm=>(nomatch hm)⟩⟩,h2,h3,h4⟩
section
variable {prog:Program} {w:World} {A:Around} {E:Value → Shared → Prop} {s:Shared} {K:Frag}
end
end Att
namespace L2
open PySem PySem.Spec PyProof.Rows
theorem vals_ints:∀ {vs:List Value} {ns:List Int},IntsAre vs ns → Vals (ns.map V.int) vs
  | _,_,.nil=>.nil
  | _,_,.cons n t h=>.cons ⟨t,rfl⟩ (vals_ints h)
end L2
namespace L2
open PySem PySem.Spec PyProof.Rows
end L2
namespace L2
open PySem PySem.Spec PyProof.Rows
def defArgs (s:Stmt):Arguments:=match s with
  | .FunctionDef _ a _ _ _ _ _ _ _ _=>a
  | _=>{ posonlyargs:=[],args:=[],vararg:=none,kwonlyargs:=[],kw_defaults:=[],kwarg:=none,defaults:=[] }
def defBody (s:Stmt):List Stmt:=match s with
  | .FunctionDef _ _ b _ _ _ _ _ _ _=>b
  | _=>[]
def defScope (s:Stmt):Scope:=match s with
  | .FunctionDef _ _ _ _ _ _ sc _ _ _=>sc
  | _=>{ kind:=.function,names:=[],isGenerator:=false,isCoroutine:=false }
abbrev CX0:CXT:=fun _ _ _ _ _ _=>False
abbrev E0:XK:=fun _ _ _=>False
theorem pass0 {X:Cx}:Passes CX0 X E0:=fun _ _ _ _ _ _ _ h=>h.elim
structure Fun (K:PySem.W.Frag) (x qual:Str) (st:Stmt) (f:Addr) (fd:FuncData):Prop where
  ex:∃ (oc:Value) (od:Option Addr) (kV doc pm:Value) (an:Option Addr) (cdv ct:Value) (osl:Array (Option Value)),
    fd = PySem.W.fnOf x qual (defArgs st) (defBody st) (defScope st) .none kV doc pm an cdv ct ∧ K.lookup f = some ⟨oc,od,.func fd,osl⟩ ∧ PySem.W.codeIn K cdv qual = true
  kp:PySem.W.keepIn K (.ref f) = true
section
variable {P:Program} {w:World} {K:PySem.W.Frag} {mg:Str → Option Value} {base:Heap}
theorem Fun.ok {x qual:Str} {st:Stmt} {f:Addr} {fd:FuncData} {N ps:List Str} {k:Nat} {sp:Sp} (F:Fun K x qual st f fd) (S:FnScope N ps (defScope st)) (len:∀ vs H Q E,sp vs H Q E → vs.length = ps.length)
    (hbody:∀ (cdv:Value) (A:Around) (outer:List Env) (s:Shared) (H:Hp) (vs:List V) (Q:VK) (E:XK),Room k (A.deeper (envOfC qual (defScope st) s.heap.objs.size f cdv)) → sp vs H Q E →
      ∃ t,PSs (cxOf CX0 P w K mg base N qual (defScope st) f cdv A outer s H E).nox (defBody st) t ∧ t { nx:=fun _ H'=>Q .non H',rt:=Q } (start N vs) H):FnOk P w K mg base CX0 (k + 1) f fd ps sp:=by
  obtain ⟨oc,od,kV,doc,pm,an,cdv,ct,osl,rfl,lk,hcd⟩:=F.ex
  refine fn_of lk hcd S len fun A outer s H vs Q E hr hsp=>?_
  obtain ⟨t,h,q⟩:=hbody cdv A outer s H vs Q E hr hsp
  exact ⟨t,h.nox,q⟩
theorem Fun.binds {x qual:Str} {st:Stmt} {f:Addr} {fd:FuncData} {ps:List Str} (F:Fun K x qual st f fd)
    (h:∀ (kV doc pm:Value) (an:Option Addr) (cdv ct:Value) (us:List Value),us.length = ps.length → bindArgs (PySem.W.fnOf x qual (defArgs st) (defBody st) (defScope st) .none kV doc pm an cdv ct) ⟨us,[]⟩ = pure (ps.zip us)):Binds K fd ps []:=by
  obtain ⟨oc,od,kV,doc,pm,an,cdv,ct,osl,rfl,lk,hcd⟩:=F.ex
  exact .all (h kV doc pm an cdv ct)
theorem fun_mk {x qual:Str} {st:Stmt} {f:Addr} {oc:Value} {od an:Option Addr} {osl:Array (Option Value)} {kV doc pm cdv ct:Value} (l:K.lookup f = some ⟨oc,od,.func (PySem.W.fnOf x qual (defArgs st) (defBody st) (defScope st) .none kV doc pm an cdv ct),osl⟩)
    (c:PySem.W.codeIn K cdv qual = true) (k:PySem.W.keepIn K (.ref f) = true):Fun K x qual st f (PySem.W.fnOf x qual (defArgs st) (defBody st) (defScope st) .none kV doc pm an cdv ct):=⟨⟨oc,od,kV,doc,pm,an,cdv,ct,osl,rfl,l,c⟩,k⟩
end
theorem small1000 {n:Nat} (h:n ≤ 1000):n < sizeLine:=Nat.lt_of_le_of_lt h (by decide)
section
variable {X:Cx}
theorem pv (i:Nat) {x:Str} {pos:Pos} (hN:X.N[i]? = some x:=by rfl) (hv:Vis X.env.scope x:=by first | exact Or.inl rfl | exact Or.inr (Or.inl rfl) | exact Or.inr (Or.inr rfl)) (hd:(x == ("__debug__" : Str)) = false:=by decide)
    (hcd:(x == ("__classdict__" : Str)) = false:=by decide):PE X (.Name x pos) (tVar i):=pe_var hN hv hd hcd
end
theorem iteF {A B:Prop} (h:B):if false = true then A else B:=by
  rw [if_neg Bool.false_ne_true]
  exact h
theorem iteT {A B:Prop} (h:A):if true = true then A else B:=by
  rw [if_pos rfl]
  exact h
def Same (H H':Hp):Prop:=∀ b o,H b = some o → H' b = some o
theorem Same.refl (H:Hp):Same H H:=fun _ _ h=>h
theorem Same.trans {H H1 H2:Hp} (a:Same H H1) (b:Same H1 H2):Same H H2:=fun c o h=>b c o (a c o h)
theorem Same.free {H H':Hp} (e:Same H H') {l:Addr} (h:H' l = Option.none):H l = Option.none:=by
  cases q:H l with
  | none=>rfl
  | some o =>
    rw [e l o q] at h
    cases h
theorem Same.seq {K:PySem.W.Frag} {H H':Hp} {a:Addr} {xs:List V} (e:Same H H') (h:SqL K H a xs):SqL K H' a xs:=by
  rcases h with (h | ⟨o,h⟩) | h
  · exact .inl (.inl (e _ _ h))
  · exact .inl (.inr ⟨o,e _ _ h⟩)
  · exact .inr h
end L2
set_option Elab.async false
set_option linter.all false
set_option maxRecDepth 100000
namespace L2
open PySem PySem.Spec PyProof.Rows
def captS (cp:List (Option Nat)) (σ:St):St:=cp.map fun o=>match o with
  | none=>none
  | some j=>(σ[j]?).getD none
structure CompSc (esc sc:Scope) (XN N:List Str) (cp:List (Option Nat)):Prop where
  kind:sc.kind = .function
  nocell:∀ y ∈ sc.names,y.2 ≠ .cell
  names:∀ y ∈ sc.names,y.2 = .local → sc.names.lookup y.1 = some .local
  free:∀ y ∈ sc.names,y.2 = .free → esc.names.lookup y.1 = some .cell ∨ esc.names.lookup y.1 = some .free
  len:cp.length = N.length
  nd:N.Nodup
  cap:((N.zip cp).all fun p=>match p.2 with
    | none=>true
    | some j=>decide (XN[j]? = some p.1) && decide (sc.names.lookup p.1 = some .free)) = true
theorem CompSc.capt {esc sc:Scope} {XN N:List Str} {cp:List (Option Nat)} (S:CompSc esc sc XN N cp) {i j:Nat} {x:Str} (hN:N[i]? = some x) (hc:cp[i]? = some (some j)) :
    XN[j]? = some x ∧ sc.names.lookup x = some .free:=by
  have hm:(x,some j) ∈ N.zip cp:=by
    have e:(N.zip cp)[i]? = some (x,some j):=by
      rw [List.getElem?_zip_eq_some]
      exact ⟨hN,hc⟩
    exact List.mem_of_getElem? e
  have q:=List.all_eq_true.mp S.cap _ hm
  simp only [Bool.and_eq_true,decide_eq_true_eq] at q
  exact q
theorem captS_get {cp:List (Option Nat)} {σ:St} {i:Nat} {v:V} (h:(captS cp σ)[i]? = some (some v)):∃ j,cp[i]? = some (some j) ∧ σ[j]? = some (some v):=by
  unfold captS at h
  rw [List.getElem?_map] at h
  cases e:cp[i]? with
  | none=>rw [e] at h; cases h
  | some o =>
    rw [e] at h
    cases o with
    | none=>cases h
    | some j =>
      refine ⟨j,rfl,?_⟩
      simp only [Option.map_some,Option.some.injEq] at h
      cases e2:σ[j]? with
      | none=>rw [e2] at h; cases h
      | some w=>rw [e2] at h; simpa using h
theorem forIn_yield_fold {α β:Type} {f:α → β → Sem (ForInStep β)} (k:α → β → β):∀ (l:List α) (c:β),(∀ x ∈ l,∀ c,f x c = pure (.yield (k x c))) → forIn l c f = (pure (l.foldl (fun c x=>k x c) c):Sem β)
  | [],c,_=>rfl
  | x :: l,c,h=>by
    rw [List.forIn_cons,h x List.mem_cons_self c]
    show forIn l (k x c) f = _
    exact forIn_yield_fold k l (k x c) fun y hy c=>h y (List.mem_cons_of_mem _ hy) c
structure ClOk (env:Env) (sc:Scope) (cl:List (Str × Addr)):Prop where
  clos:closureFor sc env = pure cl
  sub:∀ x c,cl.lookup x = some c → env.cells.lookup x = some c
  has:∀ y ∈ sc.names,y.2 = .free → ∃ c,cl.lookup y.1 = some c
theorem closure_ok {env:Env} {sc:Scope} (h:∀ y ∈ sc.names,y.2 = .free → ∃ c,env.cells.lookup y.1 = some c):∃ cl,ClOk env sc cl:=by
  let k:Str × NameKind → List (Str × Addr) → List (Str × Addr):=fun y c=>if y.2 = .free then (y.1,(env.cells.lookup y.1).getD 0) :: c else c
  have e:closureFor sc env = pure (sc.names.foldl (fun c x=>k x c) []):=by
    simp only [closureFor]
    rw [forIn_yield_fold k sc.names [] (fun x hx c=>by
      obtain ⟨n,kd⟩:=x
      by_cases hk:kd = .free
      · subst hk
        obtain ⟨a,ha⟩:=h _ hx rfl
        have hca:cellOf env n = pure a:=by unfold cellOf; rw [show env.cells.lookup n = some a from ha]
        have hkk:k (n,NameKind.free) c = (n,a) :: c:=by
          show (if NameKind.free = .free then (n,(env.cells.lookup n).getD 0) :: c else c) = _
          rw [if_pos rfl,show env.cells.lookup n = some a from ha]; rfl
        rw [hkk]
        simp only [beq_self_eq_true,if_true,hca]
        rfl
      · have hb:(kd == NameKind.free) = false:=by simpa using hk
        have hkk:k (n,kd) c = c:=by
          show (if kd = .free then _ else c) = _
          rw [if_neg hk]
        rw [hkk]
        simp only [hb,Bool.false_eq_true,if_false])]
    rfl
  have go:∀ (l:List (Str × NameKind)) (acc:List (Str × Addr)),(∀ y ∈ l,y.2 = .free → ∃ c,env.cells.lookup y.1 = some c) → (∀ x c,acc.lookup x = some c → env.cells.lookup x = some c) →
      (∀ x c,(l.foldl (fun c x=>k x c) acc).lookup x = some c → env.cells.lookup x = some c) ∧ (∀ y ∈ l,y.2 = .free → ∃ c,(l.foldl (fun c x=>k x c) acc).lookup y.1 = some c) ∧
      ∀ x c,acc.lookup x = some c → ∃ c,(l.foldl (fun c x=>k x c) acc).lookup x = some c:=by
    intro l
    induction l with
    | nil=>intro acc _ h2; exact ⟨h2,fun y hy=>(nomatch hy),fun x c e=>⟨c,e⟩⟩
    | cons y l ih =>
      intro acc h1 h2
      have h1':∀ z ∈ l,z.2 = .free → ∃ c,env.cells.lookup z.1 = some c:=fun z hz=>h1 z (List.mem_cons_of_mem _ hz)
      by_cases hk:y.2 = .free
      · obtain ⟨a,ha⟩:=h1 y List.mem_cons_self hk
        have ek:k y acc = (y.1,a) :: acc:=by show (if y.2 = .free then _ else _) = _; rw [if_pos hk,ha]; rfl
        have h2':∀ x c,((y.1,a) :: acc).lookup x = some c → env.cells.lookup x = some c:=fun x c e=>by
          rw [List.lookup_cons] at e
          cases hx:x == y.1 with
          | true=>rw [hx] at e; cases e; rw [eq_of_beq hx]; exact ha
          | false=>rw [hx] at e; exact h2 x c e
        obtain ⟨p,q,r⟩:=ih ((y.1,a) :: acc) h1' h2'
        rw [List.foldl_cons,ek]
        refine ⟨p,fun z hz hf=>?_,fun x c e=>?_⟩
        · rcases List.mem_cons.mp hz with e | hz
          · subst e; exact r z.1 a (by simp [List.lookup_cons])
          · exact q z hz hf
        · cases hx:x == y.1 with
          | true=>exact r x a (by simp [List.lookup_cons,hx])
          | false=>exact r x c (by simp [List.lookup_cons,hx,e])
      · have ek:k y acc = acc:=by show (if y.2 = .free then _ else _) = _; rw [if_neg hk]
        obtain ⟨p,q,r⟩:=ih acc h1' h2
        rw [List.foldl_cons,ek]
        refine ⟨p,fun z hz hf=>?_,r⟩
        rcases List.mem_cons.mp hz with e | hz
        · subst e; exact absurd hf hk
        · exact q z hz hf
  obtain ⟨p,q,_⟩:=go sc.names [] h (fun x c e=>by cases e)
  exact ⟨_,e,p,q⟩
theorem relabel_free {env:Env}:∀ {names:List (Str × NameKind)} {x:Str},names.lookup x = some .free →
    ((names.map fun (n,k)=>if (k == NameKind.free && env.scope.kind == .function && env.kindOf n == some .cell) then (n,NameKind.cell) else (n,k)).lookup x = some .cell ∨
     (names.map fun (n,k)=>if (k == NameKind.free && env.scope.kind == .function && env.kindOf n == some .cell) then (n,NameKind.cell) else (n,k)).lookup x = some .free)
  | [],_,h=>by simp at h
  | (n,k) :: r,x,h=>by
    have ih:=@relabel_free env r x
    show List.lookup x ((if (k == NameKind.free && env.scope.kind == .function && env.kindOf n == some .cell) = true then (n,NameKind.cell) else (n,k)) :: _) = _ ∨ List.lookup x ((if (k == NameKind.free && env.scope.kind == .function && env.kindOf n == some .cell) = true then (n,NameKind.cell) else (n,k)) :: _) = _
    cases hx:x == n with
    | true =>
      simp only [List.lookup_cons,hx] at h
      cases h
      by_cases hc:(NameKind.free == NameKind.free && env.scope.kind == .function && env.kindOf n == some .cell) = true
      · rw [if_pos hc]; left; simp [List.lookup_cons,hx]
      · rw [if_neg hc]; right; simp [List.lookup_cons,hx]
    | false =>
      simp only [List.lookup_cons,hx] at h
      by_cases hc:(k == NameKind.free && env.scope.kind == .function && env.kindOf n == some .cell) = true
      · rw [if_pos hc]; simp only [List.lookup_cons,hx]; exact ih h
      · rw [if_neg hc]; simp only [List.lookup_cons,hx]; exact ih h
theorem relabel_inv {env:Env} {names:List (Str × NameKind)} {x:Str} (hn:∀ y ∈ names,y.2 ≠ .cell)
    (h:(names.map fun (n,k)=>if (k == NameKind.free && env.scope.kind == .function && env.kindOf n == some .cell) then (n,NameKind.cell) else (n,k)).lookup x = some .cell ∨
     (names.map fun (n,k)=>if (k == NameKind.free && env.scope.kind == .function && env.kindOf n == some .cell) then (n,NameKind.cell) else (n,k)).lookup x = some .free):∃ y ∈ names,y.1 = x ∧ y.2 = .free:=by
  have hm:∃ kd,(kd = .cell ∨ kd = .free) ∧ (x,kd) ∈ (names.map fun (n,k)=>if (k == NameKind.free && env.scope.kind == .function && env.kindOf n == some .cell) then (n,NameKind.cell) else (n,k)):=by
    rcases h with h | h
    · exact ⟨_,.inl rfl,PySem.mem_of_lookup h⟩
    · exact ⟨_,.inr rfl,PySem.mem_of_lookup h⟩
  obtain ⟨kd,hk,hm⟩:=hm
  obtain ⟨⟨n,k⟩,hy,e⟩:=List.mem_map.mp hm
  have e':(if (k == NameKind.free && env.scope.kind == .function && env.kindOf n == some .cell) = true then (n,NameKind.cell) else (n,k)) = (x,kd):=e
  by_cases hc:(k == NameKind.free && env.scope.kind == .function && env.kindOf n == some .cell) = true
  · rw [if_pos hc] at e'
    cases e'
    simp only [Bool.and_eq_true,beq_iff_eq] at hc
    exact ⟨_,hy,rfl,hc.1.1⟩
  · rw [if_neg hc] at e'
    cases e'
    rcases hk with z | z
    · exact absurd z (hn _ hy)
    · exact ⟨_,hy,rfl,z⟩
structure CompPt where
  cl:List (Str × Addr)
  C:Addr
  D:Addr
  s:Shared
  H:Hp
  fp:List Addr
  pins:List (Addr × Obj)
abbrev cxC (X:Cx) (sc:Scope) (N:List Str) (z:CompPt):Cx :=
  { X with N:=N,s₀:=z.s,H₀:=z.H,env:=compEnvC sc z.cl z.C X.env,outer:=X.stack,ex:=z.D :: z.fp,fn:=fun _=>false,pn:=X.pn ++ z.pins,xe:=fun _ _=>False }
def Sets (g:TG) (Sg:List Nat):Prop:=∀ v σ H Q,g v σ H Q → g v σ H fun σ2 H2=>Q σ2 H2 ∧ σ2.length = σ.length ∧ ∀ i,i ∉ Sg → σ2[i]? = σ[i]?
theorem sets_name (k:Nat):Sets (gName k) [k]:=fun v σ H Q h=>⟨h,by simp,fun i hi=>by
  rw [List.getElem?_set_ne]
  intro e; exact hi (by simp [e])⟩
theorem sets_two (K:PySem.W.Frag) (n k l:Nat):Sets (gTup K n (gCons (gName k) (gCons (gName l) gNil))) [k,l]:=by
  intro v σ H Q h
  obtain ⟨a,xs,e,hq,hn,v1,r1,e1,v2,r2,e2,e3,q⟩:=h
  refine ⟨a,xs,e,hq,hn,v1,r1,e1,v2,r2,e2,e3,q,by simp,fun i hi=>?_⟩
  rw [List.getElem?_set_ne,List.getElem?_set_ne]
  · intro e; exact hi (by simp [e])
  · intro e; exact hi (by simp [e])
def PIf (X:Cx) (ifs:List Expr) (t:TT):Prop :=
  ∀ (pins:List (Addr × Obj)) (s:Shared) (σ:St) (H:Hp) (Q:Bool → Hp → Prop),Inv X pins σ H s → t σ H Q →
    wpAny (model X.prog X.w) X.A (forIn ifs true fun c r=>if r = true then do let ok ← isTrue c X.env (eval c X.env); pure (ForInStep.yield ok) else pure (ForInStep.yield r)) (TP X pins σ Q) X.xe s
def tYes:TT:=fun _ H Q=>Q true H
theorem pif_nil {X:Cx}:PIf X [] tYes:=fun _ _ _ H _ I h=>wpAny_tests_nil ⟨H,I,h⟩
theorem pif_one {X:Cx} {c:Expr} {t:TT} (h:PT X c t):PIf X [c] t:=fun pins s σ H Q I hw=>wpAny_tests_one (h pins s σ H Q I hw)
section
variable {prog:Program} {w:World} {A:Around} {R:Result → Shared → Prop} {s:Shared}
theorem codeAny_compLoop_own {elt target iter:Expr} {ifs:List Expr} {scope:Scope} {pos:Pos} {it acc:Value} {env:Env} (I:Nat → Shared → Prop)
    (turn:∀ n s,I n s → wpAny (model prog w) A (pyNext it) (fun r s₁=>match r with
      | none=>R (.ok .next) s₁
      | some v=>wpAny (model prog w) A (letOwnedTupleGo target it v) (fun _ s₁'=>wpAny (model prog w) A (assign target env v) (fun _ s₂ =>
          wpAny (model prog w) A (forIn ifs true fun c r=>if r = true then do let ok ← isTrue c env (eval c env); pure (ForInStep.yield ok) else pure (ForInStep.yield r)) (fun ok s₃ =>
            if ok = true then wpAny (model prog w) A (eval elt env) (fun x s₄ =>
              wpAny (model prog w) A (call (.builtin "list.append") [acc,x]) (fun _ s₅=>∃ m,m < n ∧ I m s₅) (fun _ _=>False) s₄) (fun _ _=>False) s₃
            else ∃ m,m < n ∧ I m s₃) (fun _ _=>False) s₂) (fun _ _=>False) s₁') (fun _ _=>False) s₁) (fun _ _=>False) s)
    (n:Nat) (h:I n s) :
    codeAny (model prog w) A (.compLoop (.ListComp elt [⟨target,iter,ifs,0⟩] scope pos) 0 it acc env) R s:=by
  refine codeAny_loop rfl I (fun n s hI=>?_) n h
  show wpAny _ A ((compTurn (.ListComp elt [⟨target,iter,ifs,0⟩] scope pos) 0 it acc env).onRaise (fun x=>do noteFrame x env; theTreesLotGoes x)) _ _ s
  refine wpAny_noted ?_
  rw [compTurn_list]
  refine wpAny_bind (wpAny_standAt (wpAny_bind (wpAny_mono (turn n s hI) (fun r s₁ h₁=>?_) fun _ _ h'=>h'.elim)))
  cases r with
  | none=>exact wpAny_pure h₁
  | some v =>
    refine wpAny_bind (wpAny_mono h₁ (fun _ s₁' h₁'=>?_) fun _ _ h'=>h'.elim)
    refine wpAny_bind (wpAny_mono h₁' (fun _ s₂ h₂=>wpAny_bind (wpAny_mono h₂ (fun ok s₃ h₃=>?_) fun _ _ h'=>h'.elim)) fun _ _ h'=>h'.elim)
    cases ok with
    | false=>exact wpAny_pure ⟨rfl,h₃⟩
    | true =>
      exact wpAny_bind (wpAny_bind (wpAny_mono h₃ (fun x s₄ h₄=>wpAny_bind (wpAny_mono h₄ (fun _ s₅ h₅=>wpAny_pure (wpAny_pure ⟨rfl,h₅⟩)) fun _ _ h'=>h'.elim)) fun _ _ h'=>h'.elim))
end
end L2
set_option Elab.async false
set_option linter.all false
set_option maxRecDepth 100000
namespace L2
open PySem PySem.Spec PyProof.Rows
def accObj (its:List Value) (n:Nat):Obj:={ cls:=.type "list", data:=.seq its.toArray n }
theorem comp_start {X:Cx} {sc:Scope} {N:List Str} {cp:List (Option Nat)} {pins:List (Addr × Obj)} {σ:St} {H:Hp} {s:Shared} {fp:List Addr} {cl:List (Str × Addr)} {h4:Heap} {tk:Nat} {m:Str → Option Value}
    (S:CompSc X.env.scope sc X.N N cp) (I:Inv X pins σ H s) (hf:∀ b ∈ fp,FpOk X pins H b) (hfo:∀ b ∈ fp,∃ o,s.heap.get? b = some o) (K:ClOk X.env sc cl)
    (hns:h4.Ns (s.heap.objs.size + 1) m) (hsb:∀ b o,b ≠ s.heap.objs.size + 1 → (s.heap.push (accObj [] 0)).get? b = some o → h4.get? b = some o) :
    Inv (cxC X sc N ⟨cl,s.heap.objs.size + 1,s.heap.objs.size,{ s with heap:=s.heap.push (accObj [] 0) },H,fp,pins⟩) [(s.heap.objs.size,accObj [] 0)] (captS cp σ) H { s with heap:=h4,toks:=tk }:=by
  have I3:Inv X pins σ H { s with heap:=s.heap.push (accObj [] 0) }:=I.kept (t':=s.toks) fun b o e=>Heap.get?_push_of_some _ e
  have up:∀ b o,(s.heap.push (accObj [] 0)).get? b = some o → b < s.heap.objs.size + 1:=fun b o e=>by
    have:=Heap.lt_size e
    rwa [Heap.size_push] at this
  have old:∀ b o,(s.heap.push (accObj [] 0)).get? b = some o → h4.get? b = some o:=fun b o e=>hsb b o (Nat.ne_of_lt (up b o e)) e
  have cells:∀ x c,X.env.cells.lookup x = some c → c < s.heap.objs.size:=fun x c e=>by
    obtain ⟨v,q⟩:=I.cell x c e
    exact q.lt
  have ok:(cxC X sc N ⟨cl,s.heap.objs.size + 1,s.heap.objs.size,{ s with heap:=s.heap.push (accObj [] 0) },H,fp,pins⟩).Ok:=by
    refine ⟨I3.ok.mod,S.kind,I3.ok.glob,I3.ok.blt,by show (s.heap.push (accObj [] 0)).objs.size ≤ _; rw [Heap.size_push]; exact Nat.le_refl _,fun x y c h1 h2=>I3.ok.inj x y c (K.sub x c h1) (K.sub y c h2),fun x hx=>?_,fun x c h1 _=>(by cases h1),I3.ok.hd,I3.ok.frames,.inl rfl,
      fun b hb=>?_,I3.bs,Nat.le_trans I3.ok.bsz I3.sz,fun b o e hb=>?_,fun b hb hs=>?_,I3.stack,I3.stkFree⟩
    · obtain ⟨y,hy,e,hf⟩:=relabel_inv S.nocell hx
      obtain ⟨c,hc⟩:=K.has y hy hf
      exact ⟨c,by rw [← e]; exact hc⟩
    · have hb':b = s.heap.objs.size ∨ b ∈ fp:=by simpa using hb
      rcases hb' with rfl | hb'
      · exact ⟨Nat.ne_of_lt (Nat.lt_succ_self _),fun x c e=>Nat.ne_of_lt (cells x c (K.sub x c e))⟩
      · obtain ⟨o,e⟩:=hfo b hb'
        exact ⟨Nat.ne_of_lt (Nat.lt_succ_of_lt (Heap.lt_size e)),fun x c e=>(hf b hb').2.2.2.2.1 x c (K.sub x c e)⟩
    · have hb':b = s.heap.objs.size ∨ b ∈ fp:=by simpa using hb
      rcases hb' with rfl | hb'
      · exact absurd (Heap.lt_size (I.bk _ _ e)) (Nat.lt_irrefl _)
      · rcases (hf b hb').2.2.2.1 with z | z
        · exact I.ok.noex b o e z
        · exact absurd (Nat.lt_of_lt_of_le (Heap.lt_size e) (Nat.le_trans I.ok.bsz z)) (Nat.lt_irrefl _)
    · have hb':b = s.heap.objs.size ∨ b ∈ fp:=by simpa using hb
      have hs':=I.stkSub b hs
      rcases hb' with rfl | hb'
      · rcases List.mem_cons.mp hs' with z | z
        · exact absurd I.lt (by rw [← z]; exact Nat.lt_irrefl _)
        · exact I.nofs (Nat.le_refl _) z
      · rcases List.mem_cons.mp hs' with z | z
        · exact (hf b hb').2.1 z
        · exact (hf b hb').2.2.1 z
  have stk:∀ b,b ≠ X.env.locals → b ∉ X.fs → b ∉ frs X.stack:=fun b h1 h2 h3=>by
    rcases List.mem_cons.mp (I.stkSub b h3) with z | z
    · exact h1 z
    · exact h2 z
  refine ⟨ok,rfl,I3.bare,Un.kept old,⟨m,hns,fun i x v h1 h2 h3=>?_⟩,fun x c e=>?_,?_,fun x c e=>I3.freeC x c (K.sub x c e),fun p hp=>?_,I3.hok.kept old,?_⟩
  · obtain ⟨j,hj,hσ⟩:=captS_get h2
    obtain ⟨hXN,hfr⟩:=S.capt h1 hj
    have hXk:=S.free (x,.free) (PySem.mem_of_lookup hfr) rfl
    obtain ⟨mX,hnX,hlX⟩:=I3.loc
    obtain ⟨u,r,l⟩:=hlX j x v hXN hσ (by rcases hXk with z | z; exact .inr (.inl z); exact .inr (.inr z))
    refine ⟨u,r,.inr ⟨relabel_free hfr,?_⟩⟩
    obtain ⟨c',hc'⟩:=K.has (x,.free) (PySem.mem_of_lookup hfr) rfl
    rcases l with ⟨k,_⟩ | ⟨_,c,e,z⟩
    · have k':X.env.scope.names.lookup x = some .local:=k
      rcases hXk with q | q <;> (rw [show X.env.scope.names.lookup x = _ from q] at k'; cases k')
    · have e2:=K.sub x c' hc'
      have ec:c = c':=by
        rw [e] at e2
        exact Option.some.inj e2
      exact ⟨c',hc',by rw [← ec]; exact z.keeps old⟩
  · obtain ⟨v,q⟩:=I3.cell x c (K.sub x c e)
    exact ⟨v,q.keeps old⟩
  · exact I.hok.fresh (Nat.le_succ _)
  · rcases List.mem_append.mp hp with z | z
    · obtain ⟨e,n,ne,nf,d⟩:=I3.pin p z
      exact ⟨old _ _ e,n,Nat.ne_of_lt (up _ _ e),stk _ ne nf,d⟩
    · have e:p = (s.heap.objs.size,accObj [] 0):=by simpa using z
      subst e
      refine ⟨old _ _ (Heap.get?_push_size _ rfl),I.hok.fresh (Nat.le_refl _),Nat.ne_of_lt (Nat.lt_succ_self _),stk _ (Nat.ne_of_gt I.lt) (I.nofs (Nat.le_refl _)),fun v q=>?_⟩
      have q':Data.seq _ _ = Data.cell v:=q
      cases q'
  · show (cp.map _).length = N.length
    rw [List.length_map]
    exact S.len
theorem comp_end {X:Cx} {sc:Scope} {N:List Str} {pins pins':List (Addr × Obj)} {σ σ':St} {H H5:Hp} {s s5:Shared} {fp:List Addr} {cl:List (Str × Addr)} {ys:List V} {its:List Value} {n:Nat}
    (I:Inv X pins σ H s) (hf:∀ b ∈ fp,FpOk X pins H b)
    (I5:Inv (cxC X sc N ⟨cl,s.heap.objs.size + 1,s.heap.objs.size,{ s with heap:=s.heap.push (accObj [] 0) },H,fp,pins⟩) pins' σ' H5 s5)
    (hD:s5.heap.get? s.heap.objs.size = some (accObj its n)) (hn:H5 s.heap.objs.size = none) (rv:Vals ys its) (hz:ys.length ≤ sizeLine) :
    Inv X pins σ (upd H5 s.heap.objs.size (.lst ys)) s5 ∧ FpOk X pins (upd H5 s.heap.objs.size (.lst ys)) (s.heap.objs.size + 1):=by
  have hH:H s.heap.objs.size = none:=I.hok.fresh (Nat.le_refl _)
  have lt:∀ b o,s.heap.get? b = some o → b ≠ s.heap.objs.size:=fun b o e=>Nat.ne_of_lt (Heap.lt_size e)
  have psh:∀ b o,s.heap.get? b = some o → (s.heap.push (accObj [] 0)).get? b = some o:=fun b o e=>Heap.get?_push_of_some _ e
  have nx:∀ b o,s.heap.get? b = some o → b ∉ fp → b ∉ s.heap.objs.size :: fp:=fun b o e h1 h2=>by
    rcases List.mem_cons.mp h2 with z | z
    · exact lt b o e z
    · exact h1 z
  have hU:Un (frs X.stack) fp H (upd H5 s.heap.objs.size (.lst ys)) s.heap s5.heap:=by
    have U:=I5.base
    refine ⟨fun b o e n1 hb hx=>U.keep b o (psh b o e) n1 hb (nx b o e hx),fun b o e n1 hb hx=>U.slot b o (psh b o e) n1 hb (nx b o e hx),fun b o e n1 hx=>?_,fun b o e hx=>U.there b o (psh b o e) (nx b o e hx),
      fun b xs e=>?_,fun b o u e=>?_,fun b ps e=>?_⟩
    · rw [upd_ne (lt b o e)]; exact U.free b o (psh b o e) n1 (nx b o e hx)
    · rw [upd_ne (ne_of_none e hH)]; exact U.tups b xs e
    · rw [upd_ne (ne_of_none e hH)]; exact U.frzs b o u e
    · rw [upd_ne (ne_of_none e hH)]; exact U.tbls b ps e
  have hok:HOk X.prog X.w (upd H5 s.heap.objs.size (.lst ys)) s5.heap:=fun b u q=>by
    by_cases hb:b = s.heap.objs.size
    · subst hb
      rw [upd_same] at q
      cases q
      exact ⟨hz,its,n,rv,hD⟩
    · rw [upd_ne hb] at q
      refine ObjOk.stay (I5.hok b u q) (fun c v _ q=>q) (fun c q=>?_) fun c xs q=>?_
      · rw [upd_ne (ne_of_none q hn)]; exact q
      · rw [upd_ne (ne_of_none q hn)]; exact q
  refine ⟨I.call' (ch:=fp) (show s5.os = s.os from I5.os) hU hok I5.bare fun b hb=>?_,I.fpOk (Nat.le_succ _) ?_⟩
  · obtain ⟨_,f1,_,f3,f4,f5⟩:=hf b hb
    exact ⟨f3,f1,f4,f5⟩
  · rw [upd_ne (Nat.ne_of_gt (Nat.lt_succ_self _))]
    exact I5.free
theorem comp_run {X:Cx} {sc:Scope} {N:List Str} {cp:List (Option Nat)} {tg iter elt:Expr} {ifs:List Expr} {pos:Pos} {g:TG} {tif:TT} {te:TE} {Sg:List Nat}
    (S:CompSc X.env.scope sc X.N N cp) (hc:X.calm = true) (hg:∀ z,PG (cxC X sc N z) tg g) (hset:Sets g Sg) (hloc:∀ k ∈ Sg,cp[k]? = some none)
    (hif:∀ z,PIf (cxC X sc N z) ifs tif) (he:∀ z,PE (cxC X sc N z) elt te)
    {pins:List (Addr × Obj)} {σ:St} {H:Hp} {s:Shared} {it:Addr} {fp:List Addr} {tn:Nat → Heap → Prop} {J:It} {cl:List (Str × Addr)} (I:Inv X pins σ H s) (T:Turn X.prog X.w X.K tg J fp it tn) (st:tn 0 s.heap) (hf:∀ b ∈ fp,FpOk X pins H b)
    (K:ClOk X.env sc cl) {W:Nat → Nat → List V → Hp → Prop} {F:List V → Hp → Prop} {m0:Nat} (w0:W 0 m0 [] H)
    (turn:∀ i m ys H,W i m ys H → (J.stop i H ∧ ys.length ≤ sizeLine ∧ F ys H) ∨ (J.go i H ∧ ys.length ≤ sizeLine ∧ ∃ (N1:V → Hp → Prop) (N0:Hp → Prop),(∀ y H',N1 y H' → ∃ m',m' < m ∧ W (i + 1) m' (ys ++ [y]) H') ∧ (∀ H',N0 H' → ∃ m',m' < m ∧ W (i + 1) m' ys H') ∧ ∀ x H',J.yld i H x H' → g x (captS cp σ) H' fun σ2 H2=>tif σ2 H2 fun b H3=>if b = true then te σ2 H3 N1 else N0 H3))
    {RR:Value → Addr → Result → Shared → Prop} {E:Value → Shared → Prop}
    (fin:∀ D C s5 ys H5,H5 D = none → F ys H5 → Inv X pins σ (upd H5 D (.lst ys)) s5 → (∃ m,s5.heap.Ns C m) → FpOk X pins (upd H5 D (.lst ys)) C → RR (.ref D) C (.ok .next) s5) :
    wpAny (model X.prog X.w) X.A (newList []) (fun acc s₃=>wpAny (model X.prog X.w) X.A (newFunctionEnv sc X.env.globals cl [] X.env.qual none .none (some X.env)) (fun cenv s₄ =>
      codeAny (model X.prog X.w) X.A (.compStart (.ListComp elt [⟨tg,iter,ifs,0⟩] sc pos) 0 (.ref it) acc { cenv with scope:=relabel sc X.env }) (RR acc cenv.locals) s₄) E s₃) E s:=by
  have hfo:∀ b ∈ fp,∃ o,s.heap.get? b = some o:=fun b hb=>by obtain ⟨o,e,_⟩:=T.obj 0 _ st b hb; exact ⟨o,e⟩
  refine wpAny_newObj_type (wpAny_newFunctionEnv S.nocell (by intro y hy; simp at hy) (fun h4 hns hsb=>?_) S.kind)
  have hns':h4.Ns (s.heap.objs.size + 1) (fun x=>([]:List (Str × Value)).reverse.lookup x):=by
    have z:=hns
    rw [show (s.heap.push { cls:=.type "list", dict:=none,data:=.seq ([]:List Value).toArray }).objs.size = s.heap.objs.size + 1 from Heap.size_push ..] at z
    exact z
  have hC:(s.heap.push (accObj [] 0)).objs.size = s.heap.objs.size + 1:=Heap.size_push ..
  have hsb':∀ b o,b ≠ s.heap.objs.size + 1 → (s.heap.push (accObj [] 0)).get? b = some o → h4.get? b = some o:=fun b o hb e =>
    hsb.extBut b o (by show b ≠ (s.heap.push (accObj [] 0)).objs.size; rw [hC]; exact hb) (Heap.get?_push_of_some _ e)
  have I4:=comp_start (tk:=s.toks + ([]:List (Str × Value)).length) S I hf hfo K hns' hsb'
  have loop:∀ it',it' = Value.ref it →
      codeAny (model X.prog X.w) X.A (.compLoop (.ListComp elt [⟨tg,iter,ifs,0⟩] sc pos) 0 it' (.ref s.heap.objs.size) (compEnvC sc cl (s.heap.objs.size + 1) X.env)) (RR (.ref s.heap.objs.size) (s.heap.objs.size + 1))
        { s with heap:=h4,toks:=s.toks + ([]:List (Str × Value)).length }:=by
    rintro _ rfl
    refine codeAny_compLoop_own (fun k s'=>∃ i ys its n H',Inv (cxC X sc N ⟨cl,s.heap.objs.size + 1,s.heap.objs.size,{ s with heap:=s.heap.push (accObj [] 0) },H,fp,pins⟩) [(s.heap.objs.size,accObj its n)] (captS cp σ) H' s' ∧
      Vals ys its ∧ tn i s'.heap ∧ (∀ b ∈ fp,H' b = none) ∧ W i k ys H') ?_ m0 ⟨0,[],[],0,H,I4,.nil,T.keep _ _ _ st fun b hb o e=>?_,fun b hb=>(hf b hb).1,w0⟩
    · rintro k s1 ⟨i,ys,its,n,H1,I1,rv,st1,fr1,w1⟩
      have fpY:∀ {H':Hp} {p:List (Addr × Obj)},(∀ b ∈ fp,H' b = none) → (∀ q ∈ p,q.1 = s.heap.objs.size) → ∀ b ∈ fp,FpOk (cxC X sc N ⟨cl,s.heap.objs.size + 1,s.heap.objs.size,{ s with heap:=s.heap.push (accObj [] 0) },H,fp,pins⟩) p H' b:=fun {H' p} hn hp b hb=>by
        obtain ⟨f0,f1,f2,f3,f4,f5⟩:=hf b hb
        obtain ⟨o,e⟩:=hfo b hb
        have hlt:=Heap.lt_size e
        refine ⟨hn b hb,Nat.ne_of_lt (Nat.lt_succ_of_lt hlt),fun z=>?_,.inl (List.mem_cons_of_mem _ hb),fun x c ec=>f4 x c (K.sub x c ec),fun q hq z=>?_⟩
        · rcases List.mem_cons.mp (I.stkSub b z) with z | z
          · exact f1 z
          · exact f2 z
        · rcases List.mem_append.mp hq with hq | hq
          · exact f5 q hq z
          · rw [hp q hq] at z
            rw [z] at hlt
            exact absurd hlt (Nat.lt_irrefl _)
      have pD:∀ {its':List Value} {n':Nat},∀ q ∈ [(s.heap.objs.size,accObj its' n')],q.1 = s.heap.objs.size:=fun {its' n'} q hq=>by
        have e:q = (s.heap.objs.size,accObj its' n'):=by simpa using hq
        rw [e]
      rcases turn i k ys H1 w1 with ⟨stop,hz,f⟩ | ⟨go,hz,N1,N0,hN1,hN0,step⟩
      · refine wpAny_mono (T.done (cxC X sc N ⟨cl,s.heap.objs.size + 1,s.heap.objs.size,{ s with heap:=s.heap.push (accObj [] 0) },H,fp,pins⟩) rfl rfl rfl hc i _ s1 _ H1 (fun _ _=>False) I1 (fpY fr1 pD) st1 stop) (fun r s2 ⟨hr,I2⟩=>?_) fun _ _ z=>z
        subst hr
        obtain ⟨e,nn,_⟩:=I2.pin (s.heap.objs.size,accObj its n) (List.mem_append_right _ (by simp))
        obtain ⟨IX,fC⟩:=comp_end I hf I2 e nn rv hz
        obtain ⟨mC,hC2,_⟩:=I2.loc
        exact fin _ _ s2 ys H1 nn f IX ⟨mC,hC2⟩ fC
      · refine wpAny_mono (T.item (cxC X sc N ⟨cl,s.heap.objs.size + 1,s.heap.objs.size,{ s with heap:=s.heap.push (accObj [] 0) },H,fp,pins⟩) rfl rfl rfl hc i _ s1 _ H1 (fun _ _=>False) I1 (fpY fr1 pD) st1 go) (fun r s2 ⟨u,hr,h2⟩=>?_) fun _ _ z=>z
        subst hr
        refine wpAny_mono h2 (fun _ s3 ⟨x,H3,I3,rx,y3,st3,fr3⟩=>?_) fun _ _ z=>z
        have I3':=I3.pinned (fpY fr3 pD) (T.obj _ _ st3)
        refine wpAny_mono (hg _ _ s3 _ H3 x u _ I3' rx (hset _ _ _ _ (step x H3 y3))) (fun _ s4 ⟨σ4,H4,I4',q4,len4,sm4⟩=>?_) fun _ _ z=>z
        refine wpAny_mono (hif _ _ s4 σ4 H4 _ I4' q4) (fun ok s5 ⟨H5,I5,q5⟩=>?_) fun _ _ z=>z
        have weak:∀ (j:Nat) v,(captS cp σ)[j]? = some (some v) → σ4[j]? = some (some v):=fun j v e=>by
          rw [sm4 j ?_]
          · exact e
          · intro hj
            obtain ⟨l,e1,_⟩:=captS_get e
            rw [hloc j hj] at e1
            cases e1
        cases ok with
        | false =>
          obtain ⟨m',hm,w5⟩:=hN0 _ q5
          show ∃ m,m < k ∧ _
          refine ⟨m',hm,i + 1,ys,its,n,H5,?_,rv,?_,fun b hb=>?_,w5⟩
          · exact (I5.unpinned).weak len4.symm weak
          · exact T.keep _ _ _ st3 fun b hb o e=>(I5.pin (b,o) (List.mem_append_right _ (List.mem_append_right _ (mem_pinsAt hb e)))).1
          · obtain ⟨o,e,d⟩:=T.obj _ _ st3 b hb
            exact (I5.pin (b,o) (List.mem_append_right _ (List.mem_append_right _ (mem_pinsAt hb e)))).2.1
        | true =>
          show wpAny _ _ (eval elt _) _ _ s5
          refine wpAny_mono (he _ _ s5 σ4 H5 _ I5 q5) (fun v s6 ⟨y,H6,I6,r6,q6⟩=>?_) fun _ _ z=>z
          obtain ⟨m',hm,w6⟩:=hN1 _ _ q6
          obtain ⟨eD,nD,_⟩:=I6.pin (s.heap.objs.size,accObj its n) (List.mem_append_right _ (List.mem_append_left _ (by simp)))
          refine wpAny_list_append_plain (items:=its.toArray) ⟨n,eD⟩ (fun h7 pl sb=>?_) (by rw [List.size_toArray,← rv.length]; exact hz)
          obtain ⟨n7,e7⟩:=pl
          have e7':h7.get? s.heap.objs.size = some (accObj (its ++ [v]) n7):=by
            rw [e7]
            show some _ = some _
            unfold accObj
            rw [show its.toArray.push v = (its ++ [v]).toArray by simp]
          have J0:Inv (cxC X sc N ⟨cl,s.heap.objs.size + 1,s.heap.objs.size,{ s with heap:=s.heap.push (accObj [] 0) },H,fp,pins⟩) [] σ4 H6 s6:=I6.pins_of fun p hp=>by cases hp
          have dY:s.heap.objs.size ≠ s.heap.objs.size + 1:=Nat.ne_of_lt (Nat.lt_succ_self _)
          have J1:Inv (cxC X sc N ⟨cl,s.heap.objs.size + 1,s.heap.objs.size,{ s with heap:=s.heap.push (accObj [] 0) },H,fp,pins⟩) [] σ4 H6 { s6 with heap:=h7 }:=by
            refine J0.turned (it:=s.heap.objs.size) (t':=s6.toks) (fun b o hb e=>(sb.2 b hb).trans e) nD dY (.inl List.mem_cons_self) (fun x c ec=>?_) (fun p hp=>?_)
            · obtain ⟨v',q⟩:=I.cell x c (K.sub x c ec)
              exact Nat.ne_of_lt q.lt
            · have hp':p ∈ X.pn ++ pins:=by simpa using hp
              exact Nat.ne_of_lt (Heap.lt_size (I.pin p hp').1)
          have J2:=J1.weak (σ':=captS cp σ) len4.symm weak
          refine ⟨m',hm,i + 1,ys ++ [y],its ++ [v],n7,H6,?_,rv.append (.cons r6 .nil),?_,fun b hb=>?_,w6⟩
          · refine J2.pins_of fun p hp=>?_
            have ep:p = (s.heap.objs.size,accObj (its ++ [v]) n7):=by simpa using hp
            subst ep
            obtain ⟨_,_,d1,d2,_⟩:=I6.pin (s.heap.objs.size,accObj its n) (List.mem_append_right _ (List.mem_append_left _ (by simp)))
            refine ⟨e7',nD,d1,d2,fun v' q=>?_⟩
            have q':Data.seq _ _ = Data.cell v':=q
            cases q'
          · refine T.keep _ _ _ st3 fun b hb o e=>?_
            have e6:=(I6.pin (b,o) (List.mem_append_right _ (List.mem_append_right _ (mem_pinsAt hb e)))).1
            obtain ⟨o',eo⟩:=hfo b hb
            exact (sb.2 b (Nat.ne_of_lt (Heap.lt_size eo))).trans e6
          · obtain ⟨o,e,d⟩:=T.obj _ _ st3 b hb
            exact (I6.pin (b,o) (List.mem_append_right _ (List.mem_append_right _ (mem_pinsAt hb e)))).2.1
    · obtain ⟨o',eo⟩:=hfo b hb
      exact hsb' b o (Nat.ne_of_lt (Nat.lt_succ_of_lt (Heap.lt_size eo))) (Heap.get?_push_of_some _ e)
  have st4:tn 0 h4:=T.keep _ _ _ st fun b hb o e=>hsb' b o (Nat.ne_of_lt (Nat.lt_succ_of_lt (Heap.lt_size e))) (Heap.get?_push_of_some _ e)
  have hCC:(s.heap.push { cls:=.type "list", dict:=none,data:=.seq ([]:List Value).toArray }).objs.size = s.heap.objs.size + 1:=Heap.size_push ..
  have goal:codeAny (model X.prog X.w) X.A (.compStart (.ListComp elt [⟨tg,iter,ifs,0⟩] sc pos) 0 (.ref it) (.ref s.heap.objs.size) (compEnvC sc cl (s.heap.objs.size + 1) X.env)) (RR (.ref s.heap.objs.size) (s.heap.objs.size + 1))
      { s with heap:=h4,toks:=s.toks + ([]:List (Str × Value)).length } :=
    codeAny_compStart_list (loop _ rfl) (T.self X.A 0 { s with heap:=h4,toks:=s.toks + ([]:List (Str × Value)).length } _ _ st4 (loop _ rfl))
  rw [← hCC] at goal
  exact goal
def tComp (wi:TI) (cp:List (Option Nat)) (g:TG) (tif:TT) (te:TE):TE:=fun σ H Q=>wi σ H fun J H1=>∃ W:Nat → Nat → List V → Hp → Prop,(∃ m,W 0 m [] H1) ∧ ∀ i m ys H,W i m ys H →
  (J.stop i H ∧ ys.length ≤ sizeLine ∧ ∀ p,H p = none → Q (.ref p) (upd H p (.lst ys))) ∨
  (J.go i H ∧ ys.length ≤ sizeLine ∧ ∃ (N1:V → Hp → Prop) (N0:Hp → Prop),(∀ y H',N1 y H' → ∃ m',m' < m ∧ W (i + 1) m' (ys ++ [y]) H') ∧ (∀ H',N0 H' → ∃ m',m' < m ∧ W (i + 1) m' ys H') ∧ ∀ x H',J.yld i H x H' → g x (captS cp σ) H' fun σ2 H2=>tif σ2 H2 fun b H3=>if b = true then te σ2 H3 N1 else N0 H3)
section
variable {X:Cx} {sc:Scope} {N:List Str} {cp:List (Option Nat)} {tg iter elt:Expr} {ifs:List Expr} {pos:Pos} {g:TG} {tif:TT} {te:TE} {wi:TI} {Sg:List Nat}
theorem Inv.clOk {pins:List (Addr × Obj)} {σ:St} {H:Hp} {s:Shared} (I:Inv X pins σ H s) (S:CompSc X.env.scope sc X.N N cp):∃ cl,ClOk X.env sc cl :=
  closure_ok fun y hy hf=>I.ok.has y.1 (S.free y hy hf)
theorem Inv.letGo {pins:List (Addr × Obj)} {σ:St} {H:Hp} {s:Shared} {C:Addr} {h':Heap} (I:Inv X pins σ H s) (f:FpOk X pins H C) (sb:Heap.SameBut C s.heap h'):Inv X pins σ H { s with heap:=h' }:=by
  obtain ⟨f0,f1,f2,f3,f4,f5⟩:=f
  exact I.turned (t':=s.toks) (fun b o hb e=>(sb.2 b hb).trans e) f0 f1 f3 f4 f5
theorem pe_comp (S:CompSc X.env.scope sc X.N N cp) (hc:X.calm = true) (hi:PI X tg iter wi) (hg:∀ z,PG (cxC X sc N z) tg g) (hset:Sets g Sg) (hloc:∀ k ∈ Sg,cp[k]? = some none)
    (hif:∀ z,PIf (cxC X sc N z) ifs tif) (he:∀ z,PE (cxC X sc N z) elt te) (hs:∀ x,foldedSetIterable iter X.env x = pure x:=by intro _; rfl) :
    PE X (.ListComp elt [⟨tg,iter,ifs,0⟩] sc pos) (tComp wi cp g tif te):=by
  intro pins s σ H Q I h
  obtain ⟨cl,K⟩:=I.clOk S
  rw [eval_ListComp]
  refine wpAny_comprehension_free (use:=none) rfl hs K.clos S.kind S.names (thn (hi pins s σ H _ I h) fun xv s1 h1=>thn h1 fun itv s2 h2=>?_)
  obtain ⟨it,fp,tn,J,H2,e,I2,T,st2,f2,W,⟨m0,w0⟩,turn⟩:=h2
  subst e
  refine comp_run (RR:=fun acc C=>compPost (model X.prog X.w) X.A X.xe none (EP X pins σ Q) acc C) (F:=fun ys H5=>∀ p,H5 p = none → Q (.ref p) (upd H5 p (.lst ys))) S hc hg hset hloc hif he I2 T st2 f2 K w0 turn ?_
  intro D C s5 ys H5 hD f I5 ⟨m,hn⟩ fC
  exact ⟨m,hn,fun h' sb=>⟨.ref D,_,I5.letGo fC sb,rfl,f D hD⟩⟩
end
def tComp0 (wi:TI) (cp:List (Option Nat)) (g:TG) (te:TE):TE:=fun σ H Q=>wi σ H fun J H1=>∃ W:Nat → Nat → List V → Hp → Prop,(∃ m,W 0 m [] H1) ∧ ∀ i m ys H,W i m ys H →
  (J.stop i H ∧ ys.length ≤ sizeLine ∧ ∀ p,H p = none → Q (.ref p) (upd H p (.lst ys))) ∨
  (J.go i H ∧ ys.length ≤ sizeLine ∧ ∃ N1:V → Hp → Prop,(∀ y H',N1 y H' → ∃ m',m' < m ∧ W (i + 1) m' (ys ++ [y]) H') ∧ ∀ x H',J.yld i H x H' → g x (captS cp σ) H' fun σ2 H2=>te σ2 H2 N1)
theorem comp0_turn {J:It} {cp:List (Option Nat)} {g:TG} {te:TE} {σ:St} {F:List V → Hp → Prop} {W:Nat → Nat → List V → Hp → Prop}
    (turn:∀ i m ys H,W i m ys H → (J.stop i H ∧ ys.length ≤ sizeLine ∧ F ys H) ∨ (J.go i H ∧ ys.length ≤ sizeLine ∧ ∃ N1:V → Hp → Prop,(∀ y H',N1 y H' → ∃ m',m' < m ∧ W (i + 1) m' (ys ++ [y]) H') ∧ ∀ x H',J.yld i H x H' → g x (captS cp σ) H' fun σ2 H2=>te σ2 H2 N1)) :
    ∀ i m ys H,W i m ys H → (J.stop i H ∧ ys.length ≤ sizeLine ∧ F ys H) ∨ (J.go i H ∧ ys.length ≤ sizeLine ∧ ∃ (N1:V → Hp → Prop) (N0:Hp → Prop),(∀ y H',N1 y H' → ∃ m',m' < m ∧ W (i + 1) m' (ys ++ [y]) H') ∧ (∀ H',N0 H' → ∃ m',m' < m ∧ W (i + 1) m' ys H') ∧
      ∀ x H',J.yld i H x H' → g x (captS cp σ) H' fun σ2 H2=>tYes σ2 H2 fun b H3=>if b = true then te σ2 H3 N1 else N0 H3):=fun i m ys H w=>by
  rcases turn i m ys H w with z | ⟨go,hz,N1,h1,h2⟩
  · exact .inl z
  · refine .inr ⟨go,hz,N1,fun _=>False,h1,fun _ z=>z.elim,fun x H' y=>?_⟩
    have e:(fun (σ2:St) (H2:Hp)=>tYes σ2 H2 fun b H3=>if b = true then te σ2 H3 N1 else False) = fun σ2 H2=>te σ2 H2 N1:=by
      funext σ2 H2
      show (if true = true then te σ2 H2 N1 else False) = te σ2 H2 N1
      rw [if_pos rfl]
    rw [e]
    exact h2 x H' y
section
variable {X:Cx} {sc:Scope} {N:List Str} {cp:List (Option Nat)} {tg iter elt:Expr} {pos:Pos} {g:TG} {te:TE} {wi:TI} {Sg:List Nat}
theorem pe_comp0 (S:CompSc X.env.scope sc X.N N cp) (hc:X.calm = true) (hi:PI X tg iter wi) (hg:∀ z,PG (cxC X sc N z) tg g) (hset:Sets g Sg) (hloc:∀ k ∈ Sg,cp[k]? = some none)
    (he:∀ z,PE (cxC X sc N z) elt te) (hs:∀ x,foldedSetIterable iter X.env x = pure x:=by intro _; rfl) :
    PE X (.ListComp elt [⟨tg,iter,[],0⟩] sc pos) (tComp0 wi cp g te):=by
  intro pins s σ H Q I h
  obtain ⟨cl,K⟩:=I.clOk S
  rw [eval_ListComp]
  refine wpAny_comprehension_free (use:=none) rfl hs K.clos S.kind S.names (thn (hi pins s σ H _ I h) fun xv s1 h1=>thn h1 fun itv s2 h2=>?_)
  obtain ⟨it,fp,tn,J,H2,e,I2,T,st2,f2,W,⟨m0,w0⟩,turn⟩:=h2
  subst e
  refine comp_run (RR:=fun acc C=>compPost (model X.prog X.w) X.A X.xe none (EP X pins σ Q) acc C) (F:=fun ys H5=>∀ p,H5 p = none → Q (.ref p) (upd H5 p (.lst ys))) S hc hg hset hloc (fun z=>pif_nil) he I2 T st2 f2 K w0 (comp0_turn turn) ?_
  intro D C s5 ys H5 hD f I5 ⟨m,hn⟩ fC
  exact ⟨m,hn,fun h' sb=>⟨.ref D,_,I5.letGo fC sb,rfl,f D hD⟩⟩
theorem ps_setComp0 {i:Nat} {x:Str} {px spos:Pos} (hN:X.N.Nodup) (hx:X.N[i]? = some x) (hl:X.env.scope.names.lookup x = some .local) (S:CompSc X.env.scope sc X.N N cp) (hc:X.calm = true) (hi:PI X tg iter wi) (hg:∀ z,PG (cxC X sc N z) tg g) (hset:Sets g Sg) (hloc:∀ k ∈ Sg,cp[k]? = some none)
    (he:∀ z,PE (cxC X sc N z) elt te)
    (hsw:swapsWith (.ListComp elt [⟨tg,iter,[],0⟩] sc pos) (some (.Name x px)) spos.line X.env = pure true:=by rfl) (hs:∀ x,foldedSetIterable iter X.env x = pure x:=by intro _; rfl) :
    PS X (.Assign [.Name x px] (.ListComp elt [⟨tg,iter,[],0⟩] sc pos) spos) (tAsg (tComp0 wi cp g te) (gName i)):=by
  intro pins s σ H D0 I h
  obtain ⟨cl,K⟩:=I.clOk S
  rw [exec_Assign_Name_used _ _ _ _ hsw]
  refine wpAny_bind (wpAny_standAt (wpAny_bind ?_))
  show wpAny _ _ (do let _ ← comprehension (.ListComp elt [⟨tg,iter,[],0⟩] sc pos) sc X.env _ (newList []) false (eval iter X.env) (some (assign (.Name x px) X.env))) _ _ s
  refine wpAny_bind (wpAny_mono (wpAny_comprehension_free (use:=some (assign (.Name x px) X.env)) (Q:=fun _ s'=>SP X pins D0 .next s') rfl hs K.clos S.kind S.names
    (thn (hi pins s σ H _ I h) fun xv s1 h1=>thn h1 fun itv s2 h2=>?_)) (fun _ s' hq=>wpAny_pure (wpAny_pure hq)) fun _ _ e=>e)
  obtain ⟨it,fp,tn,J,H2,e,I2,T,st2,f2,W,⟨m0,w0⟩,turn⟩:=h2
  subst e
  refine comp_run (RR:=fun acc C=>compPost (model X.prog X.w) X.A X.xe (some (assign (.Name x px) X.env)) (fun _ s'=>SP X pins D0 .next s') acc C) (F:=fun ys H5=>∀ p,H5 p = none → gName i (.ref p) σ (upd H5 p (.lst ys)) D0.nx) S hc hg hset hloc (fun z=>pif_nil) he I2 T st2 f2 K w0 (comp0_turn turn) ?_
  intro D C s5 ys H5 hD f I5 ⟨m,hn⟩ fC
  show wpAny _ _ (assign (.Name x px) X.env (.ref D)) _ _ _
  refine wpAny_assign_Name (store_ok2 I5 hN hx (.inl hl) (v:=.ref D) rfl (fun s6 I6 ⟨a,sa,ha⟩=>?_) (.inr hl))
  have hCa:C ≠ a:=by
    rcases ha with z | z
    · rw [z]; exact fC.2.1
    · exact fun q=>fC.2.2.2.2.1 x a z q.symm
  exact ⟨m,hn.sameBut sa hCa,fun h' sb=>⟨_,_,I6.letGo fC sb,f D hD⟩⟩
end
theorem comp_list {K:PySem.W.Frag} {a:Addr} {xs:List V} {B:V → Hp → (V → Hp → Prop) → Prop} {F:List V → Hp → Prop} {H:Hp} (Pv:Nat → List V → Hp → Prop) (h0:Pv 0 [] H) (hz:xs.length ≤ sizeLine)
    (hl:∀ i ys H,i ≤ xs.length → Pv i ys H → SqL K H a xs ∧ ys.length = i)
    (hs:∀ i x ys H,xs[i]? = some x → Pv i ys H → B x H fun y H4=>Pv (i + 1) (ys ++ [y]) H4)
    (hd:∀ ys H,Pv xs.length ys H → F ys H) :
    ∃ W:Nat → Nat → List V → Hp → Prop,(∃ m,W 0 m [] H) ∧ ∀ i m ys H,W i m ys H →
      ((Itl K a).stop i H ∧ ys.length ≤ sizeLine ∧ F ys H) ∨
      ((Itl K a).go i H ∧ ys.length ≤ sizeLine ∧ ∃ N1:V → Hp → Prop,(∀ y H',N1 y H' → ∃ m',m' < m ∧ W (i + 1) m' (ys ++ [y]) H') ∧ ∀ x H',(Itl K a).yld i H x H' → B x H' N1):=by
  refine ⟨fun i m ys H=>m = xs.length - i ∧ i ≤ xs.length ∧ Pv i ys H,⟨xs.length,by simp,Nat.zero_le _,h0⟩,?_⟩
  rintro i m ys H ⟨rfl,hi,p⟩
  obtain ⟨q,el⟩:=hl i ys H hi p
  have hzz:ys.length ≤ sizeLine:=by rw [el]; exact Nat.le_trans hi hz
  by_cases hlt:i < xs.length
  · refine .inr ⟨⟨xs,xs[i],q,by simp [hlt]⟩,hzz,fun y H4=>Pv (i + 1) (ys ++ [y]) H4,fun y H' q4=>⟨xs.length - (i + 1),by omega,rfl,hlt,q4⟩,fun x H' y=>?_⟩
    obtain ⟨e,y⟩:=y
    subst e
    exact hs i x ys _ (y xs q) p
  · have e:i = xs.length:=by omega
    subst e
    exact .inl ⟨⟨xs,q,Nat.le_refl _⟩,hzz,hd ys H p⟩
theorem comp_range {lo:Int} {n:Nat} {B:V → Hp → (V → Hp → Prop) → Prop} {F:List V → Hp → Prop} {H:Hp} (Pv:Nat → List V → Hp → Prop) (h0:Pv 0 [] H) (hz:n ≤ sizeLine)
    (hl:∀ i ys H,i ≤ n → Pv i ys H → ys.length = i)
    (hs:∀ i ys H,i < n → Pv i ys H → B (.int (lo + i)) H fun y H4=>Pv (i + 1) (ys ++ [y]) H4)
    (hd:∀ ys H,Pv n ys H → F ys H) :
    ∃ W:Nat → Nat → List V → Hp → Prop,(∃ m,W 0 m [] H) ∧ ∀ i m ys H,W i m ys H →
      ((Itr lo n).stop i H ∧ ys.length ≤ sizeLine ∧ F ys H) ∨
      ((Itr lo n).go i H ∧ ys.length ≤ sizeLine ∧ ∃ N1:V → Hp → Prop,(∀ y H',N1 y H' → ∃ m',m' < m ∧ W (i + 1) m' (ys ++ [y]) H') ∧ ∀ x H',(Itr lo n).yld i H x H' → B x H' N1):=by
  refine ⟨fun i m ys H=>m = n - i ∧ i ≤ n ∧ Pv i ys H,⟨n,by simp,Nat.zero_le _,h0⟩,?_⟩
  rintro i m ys H ⟨rfl,hi,p⟩
  have el:=hl i ys H hi p
  have hzz:ys.length ≤ sizeLine:=by rw [el]; exact Nat.le_trans hi hz
  by_cases hlt:i < n
  · refine .inr ⟨hlt,hzz,fun y H4=>Pv (i + 1) (ys ++ [y]) H4,fun y H' q4=>⟨n - (i + 1),by omega,rfl,hlt,q4⟩,fun x H' y=>?_⟩
    obtain ⟨e,y⟩:=y
    subst e y
    exact hs i ys _ hlt p
  · have e:i = n:=by omega
    subst e
    exact .inl ⟨Nat.le_refl _,hzz,hd ys H p⟩
end L2
set_option Elab.async false
set_option linter.all false
set_option maxRecDepth 100000
namespace L2
open PySem PySem.Spec PyProof.Rows
section
variable {X:Cx}
theorem call_sum (hc:X.calm = true):CallR X (.builtin "sum") (fun xs H Q=>∃ (p:Addr) (ns:List Int),xs = [.ref p] ∧ SqL X.K H p (ns.map V.int) ∧ Q (.int ns.sum) H):=by
  intro pins s σ H xs us Q I r h
  obtain ⟨p,ns,e,hq,q⟩:=h
  subst e
  obtain ⟨u,rfl,ru⟩:=vals1 r
  cases ru
  obtain ⟨its,rv,pl,hz⟩:=I.list hq
  have hi:=intsAre_of rv
  have hl:s.heap.IsList p its.toArray:=pl.isList
  obtain ⟨zs,ez⟩:=hi.allInts.items
  rw [ez] at hl
  refine sum_intListG (I.ok.hd hc) hl fun h' tk t' hk=>?_
  refine ⟨.int ns.sum,H,I.kept hk,⟨t',?_⟩,q⟩
  have e2:numsOf its = ns:=hi.numsOf
  rw [preSum_eq,List.take_of_length_le (by simp),← nums_intItems,← ez,List.toList_toArray,e2]
theorem call_all (hc:X.calm = true):CallR X (.builtin "all") (fun xs H Q=>∃ (p:Addr) (bs:List Bool),xs = [.ref p] ∧ SqL X.K H p (bs.map V.bl) ∧ Q (.bl (bs.all id)) H):=by
  intro pins s σ H xs us Q I r h
  obtain ⟨p,bs,e,hq,q⟩:=h
  subst e
  obtain ⟨u,rfl,ru⟩:=vals1 r
  cases ru
  obtain ⟨its,rv,pl,hz⟩:=I.list hq
  have hl:s.heap.IsList p its.toArray:=pl.isList
  have hlt:p < s.heap.objs.size:=by obtain ⟨o,ho,_⟩:=hl; exact Heap.lt_size ho
  have hlen:bs.length = its.length:=by have:=rv.length; rwa [List.length_map] at this
  refine call_all_walk (wpAny_pyIter_list hl ?_)
  refine ⟨s.heap.objs.size,_,_,_,_,_,fun i=>bs.getD i true,rfl,Walks.list (A:=X.A.in1) (I.ok.hd hc) _ p (Nat.ne_of_lt hlt) its.toArray,⟨⟨_,Heap.get?_push_size _ rfl,rfl,rfl⟩,hl.push _⟩,?_,fun h' tk hk=>?_⟩
  · intro i v s' Q' E' hP hQ
    have hv:its[i]? = some v:=by simpa using hP
    have hib:i < its.length:=(List.getElem?_eq_some_iff.mp hv).1
    have hb:(bs.map V.bl)[i]? = some (V.bl (bs[i]'(by omega))):=by rw [List.getElem?_map,List.getElem?_eq_getElem (by omega)]; rfl
    obtain ⟨v',hv',rb⟩:=rv.get hb
    rw [hv] at hv'
    cases hv'
    cases rb
    refine wpAny_truthy_bool ?_
    have e:bs.getD i true = bs[i]'(by omega):=by rw [List.getD_eq_getElem?_getD,List.getElem?_eq_getElem (by omega)]; rfl
    have hQ':Q' (bs.getD i true) s':=hQ
    rw [e] at hQ'
    exact hQ'
  · have I2:Inv X pins σ H { s with heap:=h',toks:=tk }:=I.kept fun b o e=>hk b o (by
      intro z
      have z':b = s.heap.objs.size:=by simpa using z
      rw [z'] at e
      exact absurd (Heap.lt_size e) (Nat.lt_irrefl _)) (Heap.get?_push_of_some _ e)
    refine ⟨.bl (bs.all id),H,I2,?_,q⟩
    show Value.bool _ = Value.bool _
    congr 1
    have e1:its.toArray.size = bs.length:=by rw [List.size_toArray,hlen]
    rw [e1]
    apply Bool.eq_iff_iff.mpr
    simp only [List.all_eq_true,List.mem_range,id]
    constructor
    · intro hh x hx
      obtain ⟨n,hn,rfl⟩:=List.mem_iff_getElem.mp hx
      have:=hh n hn
      rw [List.getD_eq_getElem?_getD,List.getElem?_eq_getElem hn] at this
      exact this
    · intro hh n hn
      rw [List.getD_eq_getElem?_getD,List.getElem?_eq_getElem hn]
      exact hh _ (List.getElem_mem hn)
theorem Inv.turnedNew {pins:List (Addr × Obj)} {σ:St} {H:Hp} {s:Shared} {h':Heap} {ch:List Addr} {p:Addr} {o:HO} {t':Nat} (I:Inv X pins σ H s) (hch:∀ b ∈ ch,FpOk X pins H b)
    (k:∀ b ob,b ∉ ch → s.heap.get? b = some ob → h'.get? b = some ob) (hp:s.heap.objs.size ≤ p) (new:ObjOk X.prog X.w (upd H p o) h' p o):Inv X pins σ (upd H p o) { s with heap:=h',toks:=t' }:=by
  have hn:H p = none:=I.hok.fresh hp
  have nch:∀ b u,H b = some u → b ∉ ch:=fun b u e z=>by rw [(hch b z).1] at e; cases e
  have lt:∀ b ob,s.heap.get? b = some ob → b ≠ p:=fun b ob e=>Nat.ne_of_lt (Nat.lt_of_lt_of_le (Heap.lt_size e) hp)
  refine I.step (g':=s.gens) (d':=s.drawn) (ch:=ch) (fun b hb=>?_) (fun b ob _ _ hc e _=>k b ob hc e) (fun b ob _ _ hc e _=>⟨ob.slots,k b ob hc e⟩) (fun b ob _ e n=>by rw [upd_ne (lt b ob e)]; exact n)
    (fun b ob hc e=>⟨ob,k b ob hc e⟩) (fun b xs e=>by rw [upd_ne (ne_of_none e hn)]; exact e) (fun b u xs e=>by rw [upd_ne (ne_of_none e hn)]; exact e) (fun b ps e=>⟨#[],by rw [upd_ne (ne_of_none e hn),e]; simp⟩)
    (fun m hm=>?_) (fun b u e=>?_) I.bare
  · obtain ⟨_,f1,_,f3,f4,f5⟩:=hch b hb
    exact ⟨f3,f1,f4,f5⟩
  · obtain ⟨ob,es,ep,ho,r⟩:=hm
    exact ⟨ob,es,ep,k _ ob (fun z=>(hch _ z).2.1 rfl) ho,r⟩
  · by_cases hb:b = p
    · subst hb; rw [upd_same] at e; cases e; exact new
    · rw [upd_ne hb] at e
      refine (I.hok b u e).stay (fun c v hc q=>k c v ?_ q) (fun c q=>by rw [upd_ne (ne_of_none q hn)]; exact q) fun c xs q=>by rw [upd_ne (ne_of_none q hn)]; exact q
      rcases hc with z | z
      · rw [z]; exact nch b u e
      · exact nch c _ z
theorem Inv.turnedL {pins:List (Addr × Obj)} {σ:St} {H:Hp} {s:Shared} {h':Heap} {ch:List Addr} {t':Nat} (I:Inv X pins σ H s) (hch:∀ b ∈ ch,FpOk X pins H b)
    (k:∀ b ob,b ∉ ch → s.heap.get? b = some ob → h'.get? b = some ob):Inv X pins σ H { s with heap:=h',toks:=t' }:=by
  have nch:∀ b u,H b = some u → b ∉ ch:=fun b u e z=>by rw [(hch b z).1] at e; cases e
  refine I.step (g':=s.gens) (d':=s.drawn) (ch:=ch) (fun b hb=>?_) (fun b ob _ _ hc e _=>k b ob hc e) (fun b ob _ _ hc e _=>⟨ob.slots,k b ob hc e⟩) (fun b ob _ e n=>n)
    (fun b ob hc e=>⟨ob,k b ob hc e⟩) (fun b xs e=>e) (fun b u xs e=>e) (fun b ps e=>⟨#[],by rw [e]; simp⟩)
    (fun m hm=>?_) (fun b u e=>?_) I.bare
  · obtain ⟨_,f1,_,f3,f4,f5⟩:=hch b hb
    exact ⟨f3,f1,f4,f5⟩
  · obtain ⟨ob,es,ep,ho,r⟩:=hm
    exact ⟨ob,es,ep,k _ ob (fun z=>(hch _ z).2.1 rfl) ho,r⟩
  · refine (I.hok b u e).stay (fun c v hc q=>k c v ?_ q) (fun c q=>q) fun c xs q=>q
    rcases hc with z | z
    · rw [z]; exact nch b u e
    · exact nch c _ z
end
def Ite (K:PySem.W.Frag) (a:Addr):It :=
  ⟨fun i H=>∃ xs x,SqL K H a xs ∧ xs[i]? = some x,
   fun i H v H'=>∃ p x,v = .ref p ∧ H p = none ∧ H' = upd H p (.tup [.int (i:Nat),x]) ∧ ∀ xs,SqL K H a xs → xs[i]? = some x,
   fun i H=>∃ xs,SqL K H a xs ∧ xs.length ≤ i⟩
theorem turn_enum {P:Program} {w:World} {K:PySem.W.Frag} {elts:List Expr} {k0:Nat} {tp:Pos} {e it a:Addr} (hne:e ≠ it) :
    Turn P w K (.Tuple elts k0 tp) (Ite K a) [e,it] e (fun i h=>(∃ old,IsEnum h e it i old) ∧ h.IsListIter it a i) where
  mem:=by simp
  obj:=fun i h st c hc=>by
    obtain ⟨⟨old,he⟩,⟨o1,e1,_,d1⟩⟩:=st
    have hc':c = e ∨ c = it:=by simpa using hc
    rcases hc' with rfl | rfl
    · exact ⟨_,he,fun v q=>nomatch (show Data.fields _ = Data.cell v from q)⟩
    · exact ⟨o1,e1,fun v q=>by rw [d1] at q; cases q⟩
  keep:=fun i h h' st k=>by
    obtain ⟨⟨old,he⟩,h1⟩:=st
    exact ⟨⟨old,k e (by simp) _ he⟩,h1.at fun o q=>k it (by simp) o q⟩
  item:=by
    intro X hP hw hK hc i pins s σ H E I hf st hg
    subst hP hw hK
    obtain ⟨xs,x,hqa,hx⟩:=hg
    obtain ⟨⟨old,he⟩,h1⟩:=st
    obtain ⟨ita,rva,pa,_⟩:=I.list hqa
    obtain ⟨u,hu,ru⟩:=rva.get hx
    refine wpAny_pyNext_enum_item he h1 pa.isList (x:=u) (by simpa using hu) hne fun h' a1 a2 a3 a4 a5=>?_
    refine ⟨_,rfl,?_⟩
    refine wpAny_letOwnedTupleGo_enum a1 fun h'' he'' hs''=>?_
    have ne:s.heap.objs.size ≠ e:=Nat.ne_of_gt (Heap.lt_size he)
    have kk:∀ c o,c ∉ [e,it] → s.heap.get? c = some o → h''.get? c = some o:=fun c o hcn q=>by
      have hcn':¬ (c = e ∨ c = it):=by simpa using hcn
      exact hs''.extBut c o (fun z=>hcn' (.inl z)) (a5 c o (fun z=>hcn' (.inl z)) (fun z=>hcn' (.inr z)) q)
    have hn:H s.heap.objs.size = none:=I.hok.fresh (Nat.le_refl _)
    refine ⟨.ref s.heap.objs.size,upd H s.heap.objs.size (.tup [.int (i:Nat),x]),I.turnedNew (ch:=[e,it]) (t':=s.toks + 1) hf kk (Nat.le_refl _) ?_,rfl,
      ⟨_,x,rfl,hn,rfl,fun zs hq=>by rw [I.list_inj hq hqa]; exact hx⟩,⟨⟨u,?_⟩,a2.extBut hs''.extBut (Ne.symm hne)⟩,fun c hcm=>?_⟩
    · exact ⟨by show 2 ≤ sizeLine; decide,[.int i s.toks,u],.cons ⟨_,rfl⟩ (.cons ru .nil),⟨_,hs''.extBut _ _ ne a3,rfl,_,rfl⟩⟩
    · have q:((i:Int) + 1) = (((i + 1:Nat)):Int):=by omega
      rw [← q]
      exact he''
    · obtain ⟨o,q,_⟩:∃ o,s.heap.get? c = some o ∧ True:=by
        have hc':c = e ∨ c = it:=by simpa using hcm
        obtain ⟨o1,e1,_⟩:=h1
        rcases hc' with rfl | rfl
        · exact ⟨_,he,trivial⟩
        · exact ⟨_,e1,trivial⟩
      rw [upd_ne (Nat.ne_of_lt (Heap.lt_size q))]
      exact (hf c hcm).1
  done:=by
    intro X hP hw hK hc i pins s σ H E I hf st hg
    subst hP hw hK
    obtain ⟨xs,hqa,hend⟩:=hg
    obtain ⟨⟨old,he⟩,h1⟩:=st
    obtain ⟨ita,rva,pa,_⟩:=I.list hqa
    have la:=rva.length
    refine wpAny_pyNext_enum_end (I.ok.hd hc) he h1 pa.isList (by simp; omega) fun h' k=>⟨rfl,?_⟩
    refine I.turnedL (ch:=[e,it]) (t':=s.toks) hf fun c o hcn q=>?_
    have hcn':¬ (c = e ∨ c = it):=by simpa using hcn
    exact k c o (fun z=>hcn' (.inr z)) q
  self:=fun _ _ _ _ _ st h=>wpAny_pyIter_enum st.1.choose_spec h
section
variable {X:Cx} {elts:List Expr} {k0:Nat} {tp p pos:Pos}
def iEnum (K:PySem.W.Frag) (ta:TA):TI:=fun σ H R=>ta σ H fun vs H1=>∃ a,vs = [.ref a] ∧ (∃ xs,Rd H1 a (.lst xs)) ∧ R (Ite K a) H1
theorem pi_enum {a:Expr} {ta:TA} (hg:Gl X "enumerate") (hm:X.mg "enumerate" = none) (ha:PA X [a] ta) (hs:starEach [a] X.env = [(false,eval a X.env)]:=by rfl) :
    PI X (.Tuple elts k0 tp) (.Call (.Name "enumerate" p) [a] [] pos) (iEnum X.K ta):=by
  intro pins s σ H R I h
  refine Call_ (ld_blt I hg hm boot_enumerate (PyProof.Rows.callWith_type1 (thn (ha pos pins s σ H _ I h) fun us s1 ⟨vs,H1,I1,r1,q1⟩=>?_) hs rfl))
  obtain ⟨l1,e,⟨xs,hqa⟩,q⟩:=q1
  subst e
  obtain ⟨u,rfl,ru⟩:=vals1 r1
  cases ru
  obtain ⟨_,its,n,rva,eo⟩:=hqa.ok I1.hok
  refine call_enumerate_1 eo fun h' a1 a2 a3 a4=>wpAny_pyIter_enum a1 ?_
  refine ⟨s1.heap.objs.size + 1,_,_,_,H1,rfl,I1.kept (t':=s1.toks) a4,turn_enum (Nat.ne_of_gt (Nat.lt_succ_self _)),⟨⟨_,a1⟩,a2⟩,fun c hc=>?_,q⟩
  have hc':c = s1.heap.objs.size + 1 ∨ c = s1.heap.objs.size:=by simpa using hc
  have hge:s1.heap.objs.size ≤ c:=by rcases hc' with z | z <;> (rw [z]; first | exact Nat.le_refl _ | exact Nat.le_add_right _ _)
  exact I1.fpOk hge (I1.hok.fresh hge)
end
end L2
set_option Elab.async false
set_option linter.all false
set_option maxRecDepth 100000
namespace L2
open PySem PySem.Spec PyProof.Rows
section
variable {X:Cx}
theorem op_eqI:OpR X (compareOp .Eq) (rI0 fun i j=>.bl (decide (i = j))):=opB0 fun i j _ _ _ _ _ q=>eq_int (by rw [Bool.beq_eq_decide_eq]; exact q)
theorem op_neI:OpR X (compareOp .NotEq) (rI0 fun i j=>.bl (!decide (i = j))):=opB0 fun i j _ _ _ _ _ q=>ne_int (by rw [bne,Bool.beq_eq_decide_eq]; exact q)
def pickL {α:Type} (xs:List α) (lo hi st:Option Int):List α :=
  (sliceRange (sliceBounds lo hi st xs.length).1 (sliceBounds lo hi st xs.length).2.1 (sliceBounds lo hi st xs.length).2.2).filterMap (xs[·]?)
theorem Vals.picks {xs:List V} {us:List Value} (r:Vals xs us):∀ js:List Nat,Vals (js.filterMap (xs[·]?)) (js.filterMap (us[·]?))
  | []=>.nil
  | j :: js=>by
    rw [List.filterMap_cons,List.filterMap_cons]
    cases e:xs[j]? with
    | none=>rw [r.none_of e]; exact Vals.picks r js
    | some x =>
      obtain ⟨u,hu,ru⟩:=r.get e
      rw [hu]
      exact .cons ru (Vals.picks r js)
theorem slicePick_pickL (its:List Value) (lo hi st:Option Int):slicePick its.toArray lo hi st = (pickL its lo hi st).toArray:=by
  unfold slicePick pickL
  simp
def tSl3 (K:PySem.W.Frag) (te:TE) (tl th ts:TO):TE:=fun σ H Q=>te σ H fun x H1=>tl σ H1 fun l H2=>th σ H2 fun u H3=>ts σ H3 fun st H4=>∃ a xs,x = .ref a ∧ SqL K H4 a xs ∧ st ≠ some 0 ∧ ∀ p,H4 p = none → Q (.ref p) (upd H4 p (.lst (pickL xs l u st)))
theorem pe_slice3 {e:Expr} {lo hi:Option Expr} {st:Expr} {te:TE} {tl th ts:TO} {p2 pos:Pos} (he:PE X e te) (hl:PO X lo tl) (hu:PO X hi th) (hst:PO X (some st) ts):PE X (.Subscript e (.Slice lo hi (some st) p2) pos) (tSl3 X.K te tl th ts):=by
  intro pins s σ H Q I h
  refine Subscript_ (thn (he pins s σ H _ I h) fun v s1 ⟨x,H1,I1,r1,q1⟩=>?_)
  refine wpAny_Slice (thn (hl pins s1 σ H1 _ I1 q1) fun vl s2 ⟨l,H2,I2,pl,q2⟩=>thn (hu pins s2 σ H2 _ I2 q2) fun vu s3 ⟨u,H3,I3,pu,q3⟩=>thn (hst pins s3 σ H3 _ I3 q3) fun vs s4 ⟨k,H4,I4,ps,q4⟩=>?_)
  obtain ⟨a,xs,rfl,hx,h0,q⟩:=q4
  cases r1
  have I5:Inv X pins σ H4 { s4 with heap:=s4.heap.push { cls:=.type "slice", data:=.fields #[vl,vu,vs] } }:=I4.kept (t':=s4.toks) fun b ob q=>Heap.get?_push_of_some _ q
  obtain ⟨its,r,ht,hz⟩:=I5.list hx
  have hlen:=r.length
  show wpAny (model X.prog X.w) X.A (subscriptTail e (.Slice lo hi (some st) p2) (.ref a) (.ref s4.heap.objs.size)) (EP X pins σ Q) X.xe { s4 with heap:=s4.heap.push { cls:=.type "slice", data:=.fields #[vl,vu,vs] } }
  refine tail_any (ops:=[.ref a,.ref s4.heap.objs.size]) ht.isList.typeIs slot_list_getitem.lookup ?_ (by with_unfolding_all rfl)
  refine wpAny_getItem_list_slice ht.isList (Heap.IsSliceOf.new ..) pl pu ps h0 ?_ (by rw [List.size_toArray] <;> omega)
  rw [slicePick_pickL]
  have e:pickL its l u k = (sliceRange (sliceBounds l u k xs.length).1 (sliceBounds l u k xs.length).2.1 (sliceBounds l u k xs.length).2.2).filterMap (its[·]?):=by
    unfold pickL; rw [hlen]
  have hpz:(pickL xs l u k).length ≤ sizeLine:=by
    have z:=slicePick_size_le its.toArray l u k
    rw [slicePick_pickL,List.size_toArray,List.size_toArray,e] at z
    have z2:=(r.picks (sliceRange (sliceBounds l u k xs.length).1 (sliceBounds l u k xs.length).2.1 (sliceBounds l u k xs.length).2.2)).length
    show (List.filterMap _ _).length ≤ _
    rw [z2]
    omega
  refine ⟨.ref (s4.heap.push { cls:=.type "slice", data:=.fields #[vl,vu,vs] }).objs.size,_,I5.laid (t':=s4.toks) (o:=.lst (pickL xs l u k)) (fun b ob q=>Heap.get?_push_of_some _ q) (Nat.le_refl _) ?_,rfl,q _ (I5.hok.fresh (Nat.le_refl _))⟩
  refine ⟨hpz,_,0,?_,Heap.get?_push_size _ rfl⟩
  rw [e]
  exact r.picks _
theorem pickL_rev {α:Type} (xs:List α):pickL xs none none (some (-1)) = xs.reverse:=by
  unfold pickL sliceBounds sliceRange
  simp only [Option.getD_some,show ¬ ((-1:Int) > 0) by decide,if_false]
  have hc:∀ n:Nat,(if (n:Int) - 1 > -1 then ((n:Int) - 1 - -1 - -1 - 1) / - -1 else 0).toNat = n:=fun n=>by
    by_cases h:n = 0
    · subst h; rfl
    · rw [if_pos (by omega)]; simp
  rw [hc]
  apply List.ext_getElem
  · have key:∀ (l:List Nat),(∀ j ∈ l,j < xs.length) → (l.filterMap (xs[·]?)).length = l.length:=fun l=>by
      induction l with
      | nil=>intro _; rfl
      | cons j l ih =>
        intro h
        rw [List.filterMap_cons,List.getElem?_eq_getElem (h j List.mem_cons_self)]
        simp only [List.length_cons]
        rw [ih fun k hk=>h k (List.mem_cons_of_mem _ hk)]
    rw [key _ (fun j hj=>by
      obtain ⟨k,hk,rfl⟩:=List.mem_map.mp hj
      have:=List.mem_range.mp hk
      omega)]
    simp
  · intro i h1 h2
    have h2':i < xs.length:=by simpa using h2
    have key:∀ (l:List Nat) (i:Nat) (h:i < (l.filterMap (xs[·]?)).length),(∀ j ∈ l,j < xs.length) → ∃ (hl:i < l.length),xs[l[i]]? = some (l.filterMap (xs[·]?))[i]:=fun l=>by
      induction l with
      | nil=>intro i h; simp at h
      | cons j l ih =>
        intro i h hj
        have hjl:j < xs.length:=hj j List.mem_cons_self
        have ej:xs[j]? = some xs[j]:=List.getElem?_eq_getElem hjl
        simp only [List.filterMap_cons,ej] at h ⊢
        cases i with
        | zero=>exact ⟨by simp,by simpa using ej⟩
        | succ i =>
          obtain ⟨hl,e⟩:=ih i (by simpa using h) fun k hk=>hj k (List.mem_cons_of_mem _ hk)
          exact ⟨by simpa using hl,by simpa using e⟩
    obtain ⟨hl,e⟩:=key _ i h1 (fun j hj=>by
      obtain ⟨k,hk,rfl⟩:=List.mem_map.mp hj
      have:=List.mem_range.mp hk
      omega)
    simp only [List.getElem_map,List.getElem_range] at e
    rw [List.getElem_reverse]
    rw [show ((xs.length:Int) - 1 + -1 * (i:Int)).toNat = xs.length - 1 - i by omega,List.getElem?_eq_getElem (by omega)] at e
    exact (Option.some.inj e).symm
def EqTy (X:Cx) {α:Type} [DecidableEq α] (rep:Hp → V → α → Prop):Prop :=
  ∀ (pins:List (Addr × Obj)) (s:Shared) (σ:St) (H:Hp) (x y:V) (u v:Value) (a b:α),Inv X pins σ H s → RelV x u → RelV y v → rep H x a → rep H y b → SeqAt.EqAt X.A.in1 s u v (decide (a = b))
def repI:Hp → V → Int → Prop:=fun _ x i=>x = .int i
theorem eqty_int:EqTy X repI:=by
  intro pins s σ H x y u v a b I rx ry ea eb
  have ea':x = .int a:=ea
  have eb':y = .int b:=eb
  subst ea'; subst eb'
  have z:=eqAt_V (A:=X.A.in1) (s:=s) rx ry rfl rfl
  have e:eqV (.int a) (.int b) = decide (a = b):=by
    show (a == b) = _
    exact Bool.beq_eq_decide_eq a b
  rw [e] at z
  exact z
def RepL (K:PySem.W.Frag) {α:Type} (rep:Hp → V → α → Prop) (H:Hp) (a:Addr) (ds:List α):Prop:=∃ xs,SqL K H a xs ∧ Paired (rep H) xs ds
theorem Paired.get' {α β:Type} {F:α → β → Prop}:∀ {l₁:List α} {l₂:List β},Paired F l₁ l₂ → ∀ (i:Nat) (b:β),l₂[i]? = some b → ∃ a,l₁[i]? = some a ∧ F a b
  | _,_,.nil,_,_,h=>by simp at h
  | _,_,.cons r t,0,b,h=>by simp at h; subst h; exact ⟨_,rfl,r⟩
  | _,_,.cons r t,i + 1,b,h=>by simpa using Paired.get' t i b (by simpa using h)
theorem all_range_eq {α:Type} [DecidableEq α] (ds es:List α) (h:ds.length = es.length) (e:Nat → Bool) (he:∀ i a b,ds[i]? = some a → es[i]? = some b → e i = decide (a = b)):(List.range ds.length).all e = decide (ds = es):=by
  apply Bool.eq_iff_iff.mpr
  simp only [List.all_eq_true,List.mem_range,decide_eq_true_eq]
  constructor
  · intro hh
    apply List.ext_getElem?
    intro i
    by_cases hi:i < ds.length
    · have q:=hh i hi
      rw [he i _ _ (List.getElem?_eq_getElem hi) (List.getElem?_eq_getElem (by omega))] at q
      rw [List.getElem?_eq_getElem hi,List.getElem?_eq_getElem (by omega),of_decide_eq_true q]
    · rw [List.getElem?_eq_none (by omega),List.getElem?_eq_none (by omega)]
  · intro hh i hi
    subst hh
    rw [he i _ _ (List.getElem?_eq_getElem hi) (List.getElem?_eq_getElem hi)]
    exact decide_eq_true rfl
theorem lists_items {α:Type} [DecidableEq α] {rep:Hp → V → α → Prop} (E:EqTy X rep) {pins:List (Addr × Obj)} {s:Shared} {σ:St} {H:Hp} {xs ys:List V} {us vs:List Value} {ds es:List α}
    (I:Inv X pins σ H s) (ru:Vals xs us) (rv:Vals ys vs) (pd:Paired (rep H) xs ds) (pe:Paired (rep H) ys es) :
    ∃ e:Nat → Bool,(∀ i a b,ds[i]? = some a → es[i]? = some b → e i = decide (a = b)) ∧ ∀ j (h1:j < us.toArray.size) (h2:j < vs.toArray.size),SeqAt.EqAt X.A.in1 s us.toArray[j] vs.toArray[j] (e j):=by
  refine ⟨fun i=>match ds[i]?,es[i]? with | some a,some b=>decide (a = b) | _,_=>true,fun i a b h1 h2=>by simp only [h1,h2],fun j h1 h2=>?_⟩
  have lu:us.length = ds.length:=by rw [← ru.length,pd.length]
  have lv:vs.length = es.length:=by rw [← rv.length,pe.length]
  have j1:j < us.length:=by simpa using h1
  have j2:j < vs.length:=by simpa using h2
  have d1:ds[j]? = some (ds[j]'(by omega)):=List.getElem?_eq_getElem (by omega)
  have d2:es[j]? = some (es[j]'(by omega)):=List.getElem?_eq_getElem (by omega)
  obtain ⟨x,hx,rx⟩:=Paired.get' pd j _ d1
  obtain ⟨y,hy,ry⟩:=Paired.get' pe j _ d2
  obtain ⟨u,hu,rxu⟩:=ru.get hx
  obtain ⟨v,hv,ryv⟩:=rv.get hy
  have e1:us.toArray[j] = u:=by
    have:=List.getElem?_eq_getElem j1
    rw [hu] at this
    simpa using (Option.some.inj this).symm
  have e2:vs.toArray[j] = v:=by
    have:=List.getElem?_eq_getElem j2
    rw [hv] at this
    simpa using (Option.some.inj this).symm
  rw [e1,e2]
  simp only [d1,d2]
  exact E pins s σ H x y u v _ _ I rxu ryv rx ry
theorem op_eqL {α:Type} [DecidableEq α] {rep:Hp → V → α → Prop} (E:EqTy X rep) (hu:X.A.units < cLine):OpR X (compareOp .Eq) (fun x y H Q=>∃ a b ds es,x = .ref a ∧ y = .ref b ∧ RepL X.K rep H a ds ∧ RepL X.K rep H b es ∧ Q (.bl (decide (ds = es))) H):=by
  intro pins s σ H x y v u Q I rx ry h
  obtain ⟨a,b,ds,es,e1,e2,⟨xs,hxs,pd⟩,⟨ys,hys,pe⟩,q⟩:=h
  subst e1; subst e2
  cases rx; cases ry
  obtain ⟨us,ru,pu,_⟩:=I.list hxs
  obtain ⟨vs,rv,pv,_⟩:=I.list hys
  have lu:us.length = ds.length:=by rw [← ru.length,pd.length]
  have lv:vs.length = es.length:=by rw [← rv.length,pe.length]
  by_cases hl:ds.length = es.length
  · obtain ⟨e,he,hq⟩:=lists_items E I ru rv pd pe
    refine SeqAt.eq_listAt (e:=e) pu.isList pv.isList (by simp; omega) hu hq ⟨.bl (decide (ds = es)),H,I,?_,q⟩
    show Value.bool _ = Value.bool _
    rw [show us.toArray.size = ds.length by simp [lu],all_range_eq ds es hl e he]
  · refine SeqAt.eq_list_lengthsAt pu.isList pv.isList (by simp; omega) hu ⟨.bl (decide (ds = es)),H,I,?_,q⟩
    show Value.bool _ = Value.bool _
    rw [decide_eq_false fun z=>hl (by rw [z])]
theorem op_neL {α:Type} [DecidableEq α] {rep:Hp → V → α → Prop} (E:EqTy X rep) (hu:X.A.units < cLine):OpR X (compareOp .NotEq) (fun x y H Q=>∃ a b ds es,x = .ref a ∧ y = .ref b ∧ RepL X.K rep H a ds ∧ RepL X.K rep H b es ∧ Q (.bl (!decide (ds = es))) H):=by
  intro pins s σ H x y v u Q I rx ry h
  obtain ⟨a,b,ds,es,e1,e2,⟨xs,hxs,pd⟩,⟨ys,hys,pe⟩,q⟩:=h
  subst e1; subst e2
  cases rx; cases ry
  obtain ⟨us,ru,pu,_⟩:=I.list hxs
  obtain ⟨vs,rv,pv,_⟩:=I.list hys
  have lu:us.length = ds.length:=by rw [← ru.length,pd.length]
  have lv:vs.length = es.length:=by rw [← rv.length,pe.length]
  by_cases hl:ds.length = es.length
  · obtain ⟨e,he,hq⟩:=lists_items E I ru rv pd pe
    refine SeqAt.RcNeAt.lists (e:=e) pu.isList pv.isList (by simp; omega) hu hq X.prog X.w X.xe _ ⟨.bl (!decide (ds = es)),H,I,?_,q⟩
    show Value.bool _ = Value.bool _
    rw [show us.toArray.size = ds.length by simp [lu],all_range_eq ds es hl e he]
  · refine SeqAt.RcNeAt.lists_lengths pu.isList pv.isList (by simp; omega) hu X.prog X.w X.xe _ ⟨.bl (!decide (ds = es)),H,I,?_,q⟩
    show Value.bool _ = Value.bool _
    rw [decide_eq_false fun z=>hl (by rw [z])]
    rfl
end
end L2
set_option Elab.async false
set_option linter.all false
set_option maxRecDepth 100000
namespace L2
open PySem PySem.Spec PyProof.Rows
section
variable {X:Cx} {a b c d:Expr} {ta tb tc td:TE} {pos:Pos}
def tChain3 (r r' r'':R2) (ta tb tc td:TE):TE:=fun σ H Q=>ta σ H fun x H1=>tb σ H1 fun y H2=>r x y H2 fun z H3=>∃ k,z = .bl k ∧
  (if k = true then tc σ H3 fun w' H4=>r' y w' H4 fun z2 H5=>∃ k2,z2 = .bl k2 ∧ (if k2 = true then td σ H5 fun w2 H6=>r'' w' w2 H6 Q else Q (.bl false) H5) else Q (.bl false) H3)
theorem pe_chain3 {op op' op'':CmpOp} {r r' r'':R2} (ho:OpR X (compareOp op) r) (ho':OpR X (compareOp op') r') (ho'':OpR X (compareOp op'') r'') (ha:PE X a ta) (hb:PE X b tb) (hc:PE X c tc) (hd:PE X d td)
    (hm:lastMarks [op,op',op''] [b,c,d] = false:=by with_unfolding_all rfl):PE X (.Compare a [op,op',op''] [b,c,d] pos) (tChain3 r r' r'' ta tb tc td):=by
  intro pins s σ H Q I h
  refine Compare_chain (thn (ha pins s σ H _ I h) fun v s1 ⟨x,H1,I1,r1,q1⟩=>chain_link (thn (hb pins s1 σ H1 _ I1 q1) fun u s2 ⟨y,H2,I2,r2,q2⟩ =>
    thn (ho pins s2 σ H2 x y v u _ I2 r1 r2 q2) fun d s3 ⟨z,H3,I3,r3,k,e,q3⟩=>?_)) hm
  subst e
  cases r3
  refine wpAny_truthy_bool ?_
  cases k with
  | false=>exact ite_ff ⟨.bl false,H3,I3,rfl,q3⟩
  | true =>
    refine ite_tt (chain_link (thn (hc pins s3 σ H3 _ I3 q3) fun w' s4 ⟨z',H4,I4,r4,q4⟩=>thn (ho' pins s4 σ H4 y z' u w' _ I4 r2 r4 q4) fun d' s5 ⟨z2,H5,I5,r5,k2,e2,q5⟩=>?_))
    subst e2
    cases r5
    refine wpAny_truthy_bool ?_
    cases k2 with
    | false=>exact ite_ff ⟨.bl false,H5,I5,rfl,q5⟩
    | true=>exact ite_tt (chain_last (thn (hd pins s5 σ H5 _ I5 q5) fun w2 s6 ⟨z3,H6,I6,r6,q6⟩=>ho'' pins s6 σ H6 z' z3 w' w2 Q I6 r4 r6 q6))
end
end L2
set_option Elab.async false
set_option linter.all false
set_option maxRecDepth 100000
namespace L2
open PySem PySem.Spec PyProof.Rows
section
variable {X:Cx}
def clsV:V → Option Value
  | .ref a=>some (.ref a)
  | .ty n=>some (.type n)
  | _=>none
theorem call_isinst:CallR X (.builtin "isinstance") (fun xs H Q=>∃ x c t k b,xs = [x,c] ∧ TyOf X.K H x t ∧ clsV c = some k ∧ PySem.W.kitOne X.K t k = some b ∧ Q (.bl b) H):=by
  intro pins s σ H xs us Q I r h
  obtain ⟨x,c,t,k,b,e,ty,hk,e2,q⟩:=h
  subst e
  obtain ⟨u,v,rfl,ru,rv⟩:=vals2 r
  have ev:v = k:=by
    cases c with
    | ref a=>cases rv; cases hk; rfl
    | ty n=>cases rv; cases hk; rfl
    | _=>cases hk
  subst ev
  exact isinst_ok I ru ty e2 fun tk=>⟨.bl b,H,I.tok tk,rfl,q⟩
theorem ix_listK {K:PySem.W.Frag} (hK:X.K = K):IxR X (rIxL K):=hK ▸ ix_list
end
end L2
set_option Elab.async false
set_option linter.all false
set_option maxRecDepth 100000
namespace L2
open PySem
theorem Same.tup {K:PySem.W.Frag} {H H':Hp} {a:Addr} {xs:List V} (e:Same H H') (h:SqT K H a xs):SqT K H' a xs:=by
  rcases h with (h | ⟨o,h⟩) | h
  · exact .inl (.inl (e _ _ h))
  · exact .inl (.inr ⟨o,e _ _ h⟩)
  · exact .inr h
theorem same_new {H:Hp} {p:Addr} (h:H p = none) (o:HO):Same H (upd H p o):=fun b u q=>by rw [upd_ne (ne_of_none q h)]; exact q
def IntsAt (K:PySem.W.Frag) (H:Hp) (a:Addr) (ns:List Int):Prop:=SqL K H a (ns.map V.int)
theorem Same.ints {K:PySem.W.Frag} {H H':Hp} {a:Addr} {ns:List Int} (e:Same H H') (h:IntsAt K H a ns):IntsAt K H' a ns:=e.seq h
def PairsAt (K:PySem.W.Frag) (H:Hp) (a:Addr) (rs:List (Int × Int)):Prop:=∃ as:List Addr,SqL K H a (as.map V.ref) ∧ Paired (fun b (p:Int × Int)=>SqT K H b [.int p.1,.int p.2]) as rs
theorem Same.pairs {K:PySem.W.Frag} {H H':Hp} {a:Addr} {rs:List (Int × Int)} (e:Same H H') (h:PairsAt K H a rs):PairsAt K H' a rs:=by
  obtain ⟨as,h1,h2⟩:=h
  exact ⟨as,e.seq h1,Paired.mapP h2 fun b p q=>e.tup q⟩
theorem ints_get {ns:List Int} {i:Nat} {x:V} (h:(ns.map V.int)[i]? = some x):∃ n,ns[i]? = some n ∧ x = .int n:=by
  rw [List.getElem?_map] at h
  cases e:ns[i]? with
  | none=>rw [e] at h; cases h
  | some n=>rw [e] at h; exact ⟨n,rfl,(Option.some.inj h).symm⟩
theorem take_snoc {α:Type} {xs:List α} {i:Nat} {x:α} (h:xs[i]? = some x):xs.take (i + 1) = xs.take i ++ [x]:=by
  rw [List.take_add_one,h]; rfl
theorem small100 {n:Nat} (h:n ≤ 1000):n ≤ sizeLine:=Nat.le_of_lt (small1000 h)
theorem decT {p:Prop} [Decidable p] (h:p):decide p = true:=decide_eq_true h
theorem decF {p:Prop} [Decidable p] (h:¬ p):decide p = false:=decide_eq_false h
end L2
namespace L2
open PySem
theorem comp_enum {K:PySem.W.Frag} {a:Addr} {xs:List V} {B:V → Hp → (V → Hp → Prop) → Prop} {F:List V → Hp → Prop} {H:Hp} (Pv:Nat → List V → Hp → Prop) (h0:Pv 0 [] H) (hz:xs.length ≤ sizeLine)
    (hl:∀ i zs H,i ≤ xs.length → Pv i zs H → SqL K H a xs ∧ zs.length = i)
    (hs:∀ i x zs H p,xs[i]? = some x → Pv i zs H → H p = none → B (.ref p) (upd H p (.tup [.int (i:Nat),x])) fun z H4=>Pv (i + 1) (zs ++ [z]) H4)
    (hd:∀ zs H,Pv xs.length zs H → F zs H) :
    ∃ W:Nat → Nat → List V → Hp → Prop,(∃ m,W 0 m [] H) ∧ ∀ i m zs H,W i m zs H →
      ((Ite K a).stop i H ∧ zs.length ≤ sizeLine ∧ F zs H) ∨
      ((Ite K a).go i H ∧ zs.length ≤ sizeLine ∧ ∃ N1:V → Hp → Prop,(∀ y H',N1 y H' → ∃ m',m' < m ∧ W (i + 1) m' (zs ++ [y]) H') ∧ ∀ x H',(Ite K a).yld i H x H' → B x H' N1):=by
  refine ⟨fun i m zs H=>m = xs.length - i ∧ i ≤ xs.length ∧ Pv i zs H,⟨xs.length,by simp,Nat.zero_le _,h0⟩,?_⟩
  rintro i m zs H ⟨rfl,hi,p⟩
  obtain ⟨q1,el⟩:=hl i zs H hi p
  have hzz:zs.length ≤ sizeLine:=by rw [el]; exact Nat.le_trans hi hz
  by_cases hlt:i < xs.length
  · refine .inr ⟨⟨xs,xs[i],q1,by simp [hlt]⟩,hzz,fun y H4=>Pv (i + 1) (zs ++ [y]) H4,fun y H' q4=>⟨xs.length - (i + 1),by omega,rfl,hlt,q4⟩,fun x H' y=>?_⟩
    obtain ⟨r,u,rfl,hr,rfl,hu⟩:=y
    exact hs i u zs H r (hu xs q1) p hr
  · have e:i = xs.length:=by omega
    exact .inl ⟨⟨xs,q1,by omega⟩,hzz,hd zs H (e ▸ p)⟩
end L2
set_option Elab.async false
set_option linter.all false
set_option maxRecDepth 100000
namespace L2
open PySem PySem.Spec PyProof.Rows
def notStar:Expr → Bool
  | .Starred _ _=>false
  | _=>true
theorem starEach_ns {e:Expr} {es:List Expr} {env:Env} (h:notStar e = true):starEach (e :: es) env = (false,eval e env) :: starEach es env:=by
  cases e <;> first | rfl | cases h
theorem pa_consN {X:Cx} {e:Expr} {es:List Expr} {te:TE} {t:TA} (ha:PE X e te) (hr:PA X es t) (hn:notStar e = true:=by rfl):PA X (e :: es) (tCons te t):=pa_cons ha hr (starEach_ns hn)
def intsOf:List Expr → Option (List Int)
  | []=>some []
  | .Constant (.int i) _ _ :: es=>(intsOf es).map (i :: ·)
  | _=>none
def tInts (ns:List Int):TA:=fun _ H Q=>Q (ns.map V.int) H
theorem pa_ints {X:Cx}:∀ {es:List Expr} {ns:List Int},intsOf es = some ns → PA X es (tInts ns)
  | [],ns,h=>by
    cases h
    exact fun pos pins s σ H Q I hq=>pa_nil pos pins s σ H Q I hq
  | e :: es,ns,h=>by
    cases e with
    | Constant c k p =>
      cases c with
      | int i =>
        have h':(intsOf es).map (i :: ·) = some ns:=h
        cases e2:intsOf es with
        | none=>rw [e2] at h'; cases h'
        | some ms =>
          rw [e2] at h'
          cases h'
          have ih:=pa_ints (X:=X) e2
          exact fun pos pins s σ H Q I hq=>pa_cons (X:=X) (pe_int (i:=i)) ih (starEach_ns rfl) pos pins s σ H Q I hq
      | _=>cases h
    | _=>cases h
theorem pe_tupI {X:Cx} {es:List Expr} {k:Nat} {pos:Pos} {ns:List Int} (h:intsOf es = some ns):PE X (.Tuple es k pos) (tTup (tInts ns)):=pe_tup (pa_ints h)
end L2
set_option Elab.async false
set_option linter.all false
set_option maxRecDepth 100000
namespace L2
open PySem PySem.Spec PyProof.Rows
section
variable {prog:Program} {w:World} {A:Around} {E:Value → Shared → Prop} {s:Shared}
end
section
variable {X:Cx} {tg:Expr}
end
end L2
set_option Elab.async false
set_option linter.all false
set_option maxRecDepth 100000
namespace L2
open PySem PySem.Spec PyProof.Rows
theorem cut_front (xs:List V):cutV xs none (some (-1)) = xs.dropLast:=by
  unfold cutV
  rw [HT.sIx_none,List.drop_zero,List.dropLast_eq_take]
  congr 1
  show ((-1:Int) + (xs.length:Int)).toNat - 0 = _
  omega
end L2
set_option Elab.async false
set_option linter.all false
set_option maxRecDepth 100000
namespace L2
open PySem PySem.Spec PyProof.Rows
def SqX (K:PySem.W.Frag) (H:Hp) (a:Addr) (xs:List V):Prop :=
  Rd H a (.lst xs) ∨ ∃ (its:Array Value) (n:Nat),K.lookup a = some { cls:=.type "list", dict:=none,data:=.seq its n,slots:=#[] } ∧ its.size ≤ sizeLine ∧ Vals xs its.toList
theorem SqX.sq {K:PySem.W.Frag} {H:Hp} {a:Addr} {xs:List V} (h:SqX K H a xs):SqL K H a xs:=by
  rcases h with h | ⟨its,n,hk,hz,r⟩
  · exact .inl h
  · exact .inr ⟨_,its,n,hk,rfl,rfl,rfl,hz,r⟩
theorem SqX.same {K:PySem.W.Frag} {H H':Hp} {a:Addr} {xs:List V} (e:Same H H') (h:SqX K H a xs):SqX K H' a xs:=by
  rcases h with (h | ⟨o,h⟩) | h
  · exact .inl (.inl (e _ _ h))
  · exact .inl (.inr ⟨o,e _ _ h⟩)
  · exact .inr h
theorem SqX.of {K:PySem.W.Frag} {H:Hp} {a:Addr} {xs:List V} (h:H a = some (.lst xs)):SqX K H a xs:=.inl (.inl h)
theorem SqX.obj {X:Cx} {pins:List (Addr × Obj)} {σ:St} {H:Hp} {s:Shared} {a:Addr} {xs:List V} (h:SqX X.K H a xs) (I:Inv X pins σ H s):∃ (its:Array Value) (n:Nat),s.heap.get? a = some { cls:=.type "list", dict:=none,data:=.seq its n,slots:=#[] }:=by
  rcases h with h | ⟨its,n,hk,_,_⟩
  · obtain ⟨_,its,n,_,eo⟩:=h.ok I.hok
    exact ⟨_,_,eo⟩
  · exact ⟨its,n,I.kIn a _ hk⟩
section
variable {X:Cx} {elts:List Expr} {k0:Nat} {tp p pos:Pos}
end
end L2
set_option linter.all false
namespace Wr
end Wr
set_option linter.all false
namespace Wr
structure EI (A B p o l lo:Int):Prop where
  p0:0 ≤ p
  l0:0 ≤ l
  lM:l ≤ 1000000
  oM : -1000000 ≤ o ∧ o ≤ 1000000
  loM : -1000000 ≤ lo ∧ lo ≤ 1000000
  g:Int.gcd p l = Int.gcd A B
  dp:B ∣ p - o * A
  dl:B ∣ l - lo * A
  sg:(0 ≤ o ∧ lo ≤ 0 ∧ o * l - lo * p = B) ∨ (o ≤ 0 ∧ 0 ≤ lo ∧ lo * p - o * l = B)
theorem EI.start {A B:Int} (hA:0 ≤ A) (hB:0 ≤ B) (hB2:B ≤ 1000000):EI A B A 1 B 0 :=
  ⟨hA,hB,hB2,⟨by decide,by decide⟩,⟨by decide,by decide⟩,rfl,by simp,by simp,.inl ⟨by decide,by decide,by simp⟩⟩
theorem le_mul_pos {a b:Int} (ha:0 ≤ a) (hb:1 ≤ b):a ≤ a * b:=by
  have:=Int.mul_le_mul_of_nonneg_left hb ha
  simpa using this
theorem EI.turn {A B p o l lo:Int} (hB2:B ≤ 1000000) (h:EI A B p o l lo) (hl:l ≠ 0):EI A B l lo (p - p / l * l) (o - p / l * lo):=by
  obtain ⟨p0,l0,lM,oM,loM,g,dp,dl,sg⟩:=h
  have hl1:1 ≤ l:=by omega
  have e:p - p / l * l = p % l:=by
    have:=Int.emod_add_mul_ediv p l
    rw [Int.mul_comm] at this
    omega
  have r0:=Int.emod_nonneg p hl
  have r1:=Int.emod_lt_of_pos p (show 0 < l by omega)
  have w0:0 ≤ p / l:=Int.ediv_nonneg p0 l0
  have hg:Int.gcd l (p % l) = Int.gcd A B:=by
    rw [← g]
    show Nat.gcd l.natAbs (p % l).natAbs = Nat.gcd p.natAbs l.natAbs
    rw [Int.natAbs_emod_of_nonneg p0,Nat.gcd_comm l.natAbs,← Nat.gcd_rec,Nat.gcd_comm]
  have hd:B ∣ (p - p / l * l) - (o - p / l * lo) * A:=by
    have:(p - p / l * l) - (o - p / l * lo) * A = (p - o * A) - p / l * (l - lo * A):=by
      rw [Int.sub_mul,Int.mul_sub,Int.mul_assoc]; omega
    rw [this]
    exact Int.dvd_sub dp (Int.dvd_mul_of_dvd_right dl)
  have hs:(0 ≤ lo ∧ (o - p / l * lo) ≤ 0 ∧ lo * (p - p / l * l) - (o - p / l * lo) * l = B) ∨ (lo ≤ 0 ∧ 0 ≤ (o - p / l * lo) ∧ (o - p / l * lo) * l - lo * (p - p / l * l) = B):=by
    rcases sg with ⟨s1,s2,s3⟩ | ⟨s1,s2,s3⟩
    · right
      refine ⟨s2,?_,?_⟩
      · have:p / l * lo ≤ 0:=Int.mul_nonpos_of_nonneg_of_nonpos w0 s2
        omega
      · rw [← s3,Int.sub_mul,Int.mul_sub]
        have:p / l * lo * l = lo * (p / l * l):=by ac_rfl
        omega
    · left
      refine ⟨s2,?_,?_⟩
      · have:0 ≤ p / l * lo:=Int.mul_nonneg w0 s2
        omega
      · rw [← s3,Int.sub_mul,Int.mul_sub]
        have:p / l * lo * l = lo * (p / l * l):=by ac_rfl
        omega
  rw [e] at hd hs ⊢
  generalize o - p / l * lo = n at *
  refine ⟨l0,r0,by omega,loM,?_,hg,dl,hd,hs⟩
  rcases hs with ⟨s1,s2,s3⟩ | ⟨s1,s2,s3⟩
  · have h1:0 ≤ lo * (p % l):=Int.mul_nonneg s1 r0
    have h2:=le_mul_pos (show 0 ≤ -n by omega) hl1
    rw [Int.neg_mul] at h2
    omega
  · have h1:lo * (p % l) ≤ 0:=Int.mul_nonpos_of_nonpos_of_nonneg s1 r0
    have h2:=le_mul_pos s2 hl1
    omega
structure Pwt (a b g x y:Int):Prop where
  g_:g = (Int.gcd a b:Int)
  s:a * x + b * y = g
  xM : -1000000 ≤ x ∧ x ≤ 1000000
  yM : -1000001000000 ≤ y ∧ y ≤ 1000001000000
theorem abs_small {a:Int} (h : -1000000 ≤ a ∧ a ≤ 1000000):0 ≤ (a.natAbs:Int) ∧ (a.natAbs:Int) ≤ 1000000:=by omega
theorem mul_small {x a M N:Int} (hx : -M ≤ x ∧ x ≤ M) (ha : -N ≤ a ∧ a ≤ N) (hM:0 ≤ M) (hN:0 ≤ N) : -(M * N) ≤ x * a ∧ x * a ≤ M * N:=by
  have h1:(x * a).natAbs ≤ M.natAbs * N.natAbs:=by
    rw [Int.natAbs_mul]
    exact Nat.mul_le_mul (by omega) (by omega)
  have h2:((M.natAbs * N.natAbs:Nat):Int) = M * N:=by
    rw [Int.natCast_mul]
    rw [show (M.natAbs:Int) = M by omega,show (N.natAbs:Int) = N by omega]
  omega
theorem EI.done {a b p o lo:Int} (ha : -1000000 ≤ a ∧ a ≤ 1000000) (hb : -1000000 ≤ b ∧ b ≤ 1000000) (h:EI (a.natAbs:Int) (b.natAbs:Int) p o 0 lo) :
    Pwt a b p (if a < 0 then -o else o) (if b = 0 then 0 else Int.fdiv (p - (if a < 0 then -o else o) * a) b) ∧ -1000001000000 ≤ p - (if a < 0 then -o else o) * a ∧ p - (if a < 0 then -o else o) * a ≤ 1000001000000:=by
  obtain ⟨p0,l0,lM,oM,loM,g,dp,dl,sg⟩:=h
  have hp:p = (Int.gcd a b:Int):=by
    have e:Int.gcd (a.natAbs:Int) (b.natAbs:Int) = Int.gcd a b:=by simp [Int.gcd]
    rw [e,Int.gcd_zero_right] at g
    omega
  have hx:(if a < 0 then -o else o) * a = o * (a.natAbs:Int):=by
    split
    · rw [show (a.natAbs:Int) = -a by omega,Int.neg_mul,Int.mul_neg]
    · rw [show (a.natAbs:Int) = a by omega]
  have hxM : -1000000 ≤ (if a < 0 then -o else o) ∧ (if a < 0 then -o else o) ≤ 1000000:=by split <;> omega
  have hb2:b ∣ p - (if a < 0 then -o else o) * a:=by
    rw [hx]
    exact Int.natAbs_dvd.mp dp
  have hpM:p ≤ 1000000:=by
    rw [hp]
    by_cases hz:a = 0
    · subst hz
      rw [Int.gcd_zero_left]; omega
    · have:(Int.gcd a b) ≤ a.natAbs:=Nat.le_of_dvd (by omega) (Nat.gcd_dvd_left _ _)
      omega
  have hm:=mul_small (M:=1000000) (N:=1000000) hxM ha (by decide) (by decide)
  rw [show (1000000:Int) * 1000000 = 1000000000000 by decide] at hm
  generalize (if a < 0 then -o else o) = x at *
  refine ⟨?_,by omega,by omega⟩
  by_cases hb0:b = 0
  · rw [if_pos hb0]
    subst hb0
    refine ⟨hp,?_,hxM,by omega⟩
    obtain ⟨c,hc⟩:=hb2
    rw [Int.zero_mul] at hc
    rw [Int.mul_comm a x]
    omega
  · rw [if_neg hb0]
    obtain ⟨c,hc⟩:=hb2
    have ec:Int.fdiv (p - x * a) b = c:=by rw [hc]; exact Int.mul_fdiv_cancel_left c hb0
    rw [ec]
    refine ⟨hp,?_,hxM,?_⟩
    · rw [Int.mul_comm a x]; omega
    · have h1:(b * c).natAbs = b.natAbs * c.natAbs:=Int.natAbs_mul b c
      have h2:c.natAbs ≤ b.natAbs * c.natAbs:=Nat.le_mul_of_pos_left _ (by omega)
      omega
end Wr
set_option Elab.async false
set_option linter.all false
set_option maxRecDepth 100000
namespace L2
open PySem
def TrdAt (h:Heap) (ea:Addr) (cls:Value) (T:Addr) (fl:Value):Prop :=
  ∃ oe vs oT ts,h.get? ea = some oe ∧ oe.cls = cls ∧ oe.dict = none ∧ oe.data = .fields vs ∧ vs[1]? = some (.ref T) ∧ vs[2]? = some .none ∧ T ≠ ea ∧ h.get? T = some oT ∧ oT.data = .fields ts ∧ ts[3]? = some fl
structure KeptX (fs:List Addr) (ea T:Addr) (h h':Heap):Prop where
  keep:∀ b o,h.get? b = some o → b ∉ fs → b ≠ ea → b ≠ T → h'.get? b = some o
  slot:∀ b o,h.get? b = some o → b ∈ fs → ∃ sl,h'.get? b = some { o with slots:=sl }
abbrev frsL (l:List Env):List Addr:=l.filterMap (·.frame)
section
variable {M:Model} {A:Around} {E:Value → Shared → Prop} {s:Shared} {base:Heap} {env:Env} {outer:List Env} {L e T:Addr}
theorem fr_notfields {h:Heap} {l:List Env} (hl:h.FunFrames base l) {b:Addr} {o:Obj} {vs:Array Value} (ho:h.get? b = some o) (hd:o.data = .fields vs):b ∉ frsL l:=fun hm=>by
  obtain ⟨_,o',ho',hnf⟩:=hl.mem hm
  rw [ho] at ho'; cases ho'; exact hnf vs hd
theorem fly_entry {oe:Obj} {vs:Array Value} {head:Value} {hadNext:Bool} {Q:Unit → Shared → Prop}
    (hfr:A.frames = some (env :: outer)) (hl:s.heap.FunFrames base (env :: outer)) (hf:env.frame = some L)
    (he:s.heap.get? e = some oe) (hd:oe.data = .fields vs) (hsz:1 < vs.size) (h2c:vs[2]? = some .none) (hdi:oe.dict = none)
    (h:∀ h' T',s.heap.get? T' = none → TrdAt h' e oe.cls T' (rawInt L) → KeptX (frsL (env :: outer)) e e s.heap h' → Q () { s with heap:=h' }) :
    wpAny M A (do let a ← frameOf env; let pl ← entryPlaceOf L hadNext; let b ← EntryCells.newEntry head a .none (rawInt L) .none pl; setField (.ref e) 1 b) Q E s:=by
  have hene:=fr_notfields hl he hd
  refine wpAny_bind (wpAny_frameOf_fun hfr hl hf fun h₁ hs₁=>?_)
  refine wpAny_bind (wpAny_entryPlaceOf fun pl hpl=>?_)
  unfold EntryCells.newEntry newFields
  refine wpAny_bind (wpAny_newObj_type ?_ (hpl.sizeOk5 _ _ _ _ _))
  generalize hN:({ cls:=.type "traceback", dict:=none,data:=.fields ([head,.ref L,.none,rawInt L,.none] ++ (if pl.isEmpty then List.replicate 6 Value.none else pl)).toArray }:Obj) = oN
  have he₁:h₁.get? e = some oe:=(hs₁.2.1 e hene).trans he
  have he₂:=Heap.get?_push_of_some (h:=h₁) oN he₁
  refine wpAny_setField he₂ hd hsz ?_
  have hTe:h₁.objs.size ≠ e:=Nat.ne_of_gt (Heap.lt_size he₁)
  have hd₃:=Obj.data_mapFields hd (·.setIfInBounds 1 (Value.ref h₁.objs.size))
  have hnew:s.heap.get? h₁.objs.size = none:=by
    cases q:s.heap.get? h₁.objs.size with
    | none=>rfl
    | some o =>
      obtain ⟨sl,z⟩:=hs₁.2.2 _ o q
      exact absurd (Heap.lt_size z) (Nat.lt_irrefl _)
  have hoN:oN.isFreed = false:=by rw [← hN]; rfl
  refine h _ h₁.objs.size hnew ⟨_,_,_,_,Heap.get?_update_self _ he₂ (Obj.isFreed_of_fields hd₃),Obj.cls_mapFields _ _,?_,hd₃,?_,?_,hTe,(Heap.get?_update_other _ _ (Ne.symm hTe)).trans (Heap.get?_push_size h₁ hoN),(by rw [← hN]),?_⟩ ⟨fun b o hb hnf hbe _=>?_,fun b o hb hm=>?_⟩
  · obtain ⟨c,d,dt,sl⟩:=oe
    have hdt:dt = .fields vs:=hd
    subst hdt
    exact hdi
  · simp [hsz]
  · rw [Array.getElem?_setIfInBounds_ne (by decide)]
    exact h2c
  · rcases hpl with rfl | ⟨_,_,_,_,_,_,_,rfl⟩ <;> simp
  · rw [Heap.get?_update_other _ _ (Ne.symm hbe)]
    exact Heap.get?_push_of_some _ ((hs₁.2.1 b hnf).trans hb)
  · obtain ⟨sl,z⟩:=hs₁.2.2 b o hb
    refine ⟨sl,?_⟩
    rw [Heap.get?_update_other _ _ (fun (q:e = b)=>hene (by rw [q]; exact hm))]
    exact Heap.get?_push_of_some _ z
theorem fly_still {cls fl:Value} {Q:Unit → Shared → Prop} (ht:TrdAt s.heap e cls T fl) (hl:s.heap.FunFrames base outer)
    (h:∀ h',TrdAt h' e cls T .none → KeptX (frsL outer) e T s.heap h' → Q () { s with heap:=h' }):wpAny M A (setFlight (.ref e) none) Q E s:=by
  obtain ⟨oe,vs,oT,ts,he,hc,hdi,hd,h1,h2c,hTe,hT,hdT,h3⟩:=ht
  have hsz3:3 < ts.size:=(Array.getElem?_eq_some_iff.mp h3).1
  have hnT:=fr_notfields hl hT hdT
  unfold setFlight
  refine wpAny_bind (wpAny_field he hd h1 ?_)
  rw [if_pos (show (Value.ref T != Value.none) = true from by simp)]
  refine wpAny_setField hT hdT hsz3 (h _ ⟨oe,vs,_,_,(Heap.get?_update_other _ _ hTe).trans he,hc,hdi,hd,h1,h2c,hTe,Heap.get?_update_self _ hT (Obj.isFreed_of_fields (Obj.data_mapFields hdT _)),Obj.data_mapFields hdT _,by simp [hsz3]⟩ ⟨fun b o hb _ _ hbT=>(Heap.get?_update_other _ _ (Ne.symm hbT)).trans hb,fun b o hb hm=>⟨o.slots,(Heap.get?_update_other _ _ fun (q:T = b)=>hnT (by rw [q]; exact hm)).trans hb⟩⟩)
theorem fly_note {cls:Value} {Q:Unit → Shared → Prop} (hfr:A.frames = some (env :: outer)) (hl:s.heap.FunFrames base (env :: outer)) (hf:env.frame = some L) (ht:TrdAt s.heap e cls T .none)
    (h:∀ h' T',s.heap.get? T' = none → TrdAt h' e cls T' (rawInt L) → KeptX (frsL (env :: outer)) e T s.heap h' → Q () { s with heap:=h' }):wpAny M A (noteFrame (.ref e) env) Q E s:=by
  obtain ⟨oe,vs,oT,ts,he,hc,hdi,hd,h1,h2c,hTe,hT,hdT,h3⟩:=ht
  subst hc
  unfold noteFrame
  simp only [hf]
  refine wpAny_bind (wpAny_field he hd h1 ?_)
  rw [if_pos (show (Value.ref T != Value.none) = true from by simp)]
  refine wpAny_bind (wpAny_field hT hdT h3 ?_)
  rw [if_neg (show ¬ ((Value.none == rawInt L) = true) from by simp [rawInt])]
  refine wpAny_bind (wpAny_setField hT hdT (Array.getElem?_eq_some_iff.mp h3).1 ?_)
  have hnT:=fr_notfields hl hT hdT
  have other:∀ b,b ≠ T → (s.heap.update T (Obj.mapFields (·.setIfInBounds 3 Value.none))).get? b = s.heap.get? b:=fun b hb=>Heap.get?_update_other _ _ (Ne.symm hb)
  refine fly_entry hfr (hl.of_keeps fun b o hb hnf=>⟨o,(other b fun q=>by rw [q,hT] at hb; cases hb; exact hnf ts hdT).trans hb,rfl⟩) hf ((other e (Ne.symm hTe)).trans he) hd (Array.getElem?_eq_some_iff.mp h1).1 h2c hdi fun h' T' hn ht' hk=>?_
  refine h h' T' ?_ ht' ⟨fun b o hb hnf hbe hbT=>hk.keep b o ((other b hbT).trans hb) hnf hbe hbe,fun b o hb hm=>hk.slot b o ((other b fun q=>hnT (q ▸ hm)).trans hb) hm⟩
  by_cases q:T' = T
  · rw [q,Heap.get?_update_self _ hT (Obj.isFreed_of_fields (Obj.data_mapFields hdT _))] at hn; cases hn
  · exact (other T' q).symm.trans hn
theorem fly_first {oe:Obj} {vs:Array Value} {Q:Unit → Shared → Prop} (hfr:A.frames = some (env :: outer)) (hl:s.heap.FunFrames base (env :: outer)) (hf:env.frame = some L) (he:s.heap.get? e = some oe) (hd:oe.data = .fields vs) (h1:vs[1]? = some .none) (h2c:vs[2]? = some .none) (hdi:oe.dict = none)
    (h:∀ h' T',s.heap.get? T' = none → TrdAt h' e oe.cls T' (rawInt L) → KeptX (frsL (env :: outer)) e e s.heap h' → Q () { s with heap:=h' }):wpAny M A (noteFrame (.ref e) env) Q E s:=by
  unfold noteFrame
  simp only [hf]
  refine wpAny_bind (wpAny_field he hd h1 ?_)
  rw [if_neg (by decide)]
  exact fly_entry hfr hl hf he hd (Array.getElem?_eq_some_iff.mp h1).1 h2c hdi h
theorem KeptX.frames {h h':Heap} {l:List Env} {vs ts:Array Value} {oe oT:Obj} (k:KeptX (frsL l) e T h h') (hl:h.FunFrames base l) (he:h.get? e = some oe) (hd:oe.data = .fields vs) (hT:h.get? T = some oT) (hdT:oT.data = .fields ts):h'.FunFrames base l :=
  hl.of_keeps fun b o hb hnf=>by
    by_cases hm:b ∈ frsL l
    · obtain ⟨sl,z⟩:=k.slot b o hb hm
      exact ⟨_,z,rfl⟩
    · exact ⟨o,k.keep b o hb hm (fun q=>by rw [q,he] at hb; cases hb; exact hnf vs hd) fun q=>by rw [q,hT] at hb; cases hb; exact hnf ts hdT,rfl⟩
end
end L2
set_option Elab.async false
set_option linter.all false
set_option maxRecDepth 100000
namespace L2
open PySem PySem.Spec PyProof.Rows
section
variable {X:Cx} {pins:List (Addr × Obj)} {σ:List (Option V)} {H H':Hp} {s:Shared} {h':Heap}
theorem Inv.stepW {g':Array GenState} {t':Nat} {d':Drawn} {ch:List Addr} (I:Inv X pins σ H s)
    (hch:∀ b ∈ ch,(b ∈ X.ex ∨ X.s₀.heap.get? b = none) ∧ b ≠ X.env.locals ∧ (∀ x c,X.env.cells.lookup x = some c → c ≠ b) ∧ ∀ p ∈ X.pn ++ pins,p.1 ≠ b)
    (keep:∀ b o,b ≠ X.env.locals → b ∉ X.fs → b ∉ ch → s.heap.get? b = some o → H b = none → h'.get? b = some o)
    (slot:∀ b o,b ≠ X.env.locals → b ∈ X.fs → b ∉ ch → s.heap.get? b = some o → H b = none → ∃ sl,h'.get? b = some { o with slots:=sl }) (free:∀ b o,b ∉ ch → s.heap.get? b = some o → H b = none → H' b = none)
    (there:∀ b o,b ∉ ch → s.heap.get? b = some o → ∃ o',h'.get? b = some o')
    (tups:∀ b xs,H b = some (.tup xs) → H' b = some (.tup xs)) (frzs:∀ b o u,H b = some (.frz o u) → H' b = some (.frz o u)) (tbls:∀ b ps,H b = some (.tbl ps) → ∃ more,H' b = some (.tbl (ps ++ more)))
    (ns:∀ m,s.heap.Ns X.env.locals m → h'.Ns X.env.locals m) (hok:HOk X.prog X.w H' h') (hg:AllBare g') :
    Inv X pins σ H' { s with heap:=h',gens:=g',drawn:=d',toks:=t' }:=by
  have neL:∀ b o,X.s₀.heap.get? b = some o → b ≠ X.env.locals:=fun b o e=>Nat.ne_of_lt (Nat.lt_of_lt_of_le (Heap.lt_size e) I.ok.above)
  have neC:∀ b o,X.s₀.heap.get? b = some o → b ∉ X.ex → b ∉ ch:=fun b o e hx hb=>by
    rcases (hch b hb).1 with z | z
    · exact hx z
    · rw [z] at e; cases e
  have cellK:∀ x c,X.env.cells.lookup x = some c → ∀ v,s.heap.IsCell c v → h'.IsCell c v:=fun x c e v ⟨o,ho,hd⟩=>by
    have nch:c ∉ ch:=fun z=>(hch c z).2.2.1 x c e rfl
    by_cases hc:c ∈ X.fs
    · obtain ⟨sl,q⟩:=slot c o (I.cne x c e) hc nch ho (I.freeC x c e)
      exact ⟨_,q,hd⟩
    · exact ⟨o,keep c o (I.cne x c e) hc nch ho (I.freeC x c e),hd⟩
  refine ⟨I.ok,I.os,hg,⟨fun b o e n hb hx=>?_,fun b o e n hb hx=>?_,fun b o e n hx=>?_,fun b o e hx=>?_,fun b xs e=>tups b xs (I.base.tups b xs e),fun b o xs e=>frzs b o xs (I.base.frzs b o xs e),fun b ps e=>?_⟩,?_,fun x c e=>?_,?_,fun x c e=>?_,fun p hp=>?_,hok,I.len⟩
  · exact keep b o (neL b o e) hb (neC b o e hx) (I.base.keep b o e n hb hx) (I.base.free b o e n hx)
  · obtain ⟨sl,e1⟩:=I.base.slot b o e n hb hx
    obtain ⟨sl',e2⟩:=slot b _ (neL b o e) hb (neC b o e hx) e1 (I.base.free b o e n hx)
    exact ⟨sl',e2⟩
  · obtain ⟨o',e1⟩:=I.base.there b o e hx
    exact free b o' (neC b o e hx) e1 (I.base.free b o e n hx)
  · obtain ⟨o',e1⟩:=I.base.there b o e hx
    exact there b o' (neC b o e hx) e1
  · obtain ⟨m1,e1⟩:=I.base.tbls b ps e
    obtain ⟨m2,e2⟩:=tbls b _ e1
    exact ⟨m1 ++ m2,by rw [e2,Array.append_assoc]⟩
  · obtain ⟨m,hn,hl⟩:=I.loc
    refine ⟨m,ns m hn,fun i x v e1 e2 e3=>?_⟩
    obtain ⟨u,r,l⟩:=hl i x v e1 e2 e3
    refine ⟨u,r,?_⟩
    rcases l with l | ⟨k,c,e,z⟩
    · exact .inl l
    · exact .inr ⟨k,c,e,cellK x c e _ z⟩
  · obtain ⟨v,z⟩:=I.cell x c e
    exact ⟨v,cellK x c e v z⟩
  · obtain ⟨m,⟨o,_,_,ho,_⟩,_⟩:=I.loc
    exact free _ o (fun z=>(hch _ z).2.1 rfl) ho I.free
  · obtain ⟨v,o,ho,hd⟩:=I.cell x c e
    exact free c o (fun z=>(hch c z).2.2.1 x c e rfl) ho (I.freeC x c e)
  · obtain ⟨e,n,ne,nf,d⟩:=I.pin p hp
    have nch:p.1 ∉ ch:=fun z=>(hch p.1 z).2.2.2 p hp rfl
    exact ⟨keep p.1 p.2 ne nf nch e n,free p.1 p.2 nch e n,ne,nf,d⟩
theorem Inv.callW {g':Array GenState} {t':Nat} {d':Drawn} {ch:List Addr} (I:Inv X pins σ H s) (u:Un (frs X.stack) ch H H' s.heap h') (hok:HOk X.prog X.w H' h') (hg:AllBare g')
    (hch:∀ b ∈ ch,(b ∈ X.ex ∨ X.s₀.heap.get? b = none) ∧ b ≠ X.env.locals ∧ (∀ x c,X.env.cells.lookup x = some c → c ≠ b) ∧ ∀ p ∈ X.pn ++ pins,p.1 ≠ b) :
    Inv X pins σ H' { s with heap:=h',gens:=g',drawn:=d',toks:=t' }:=by
  obtain ⟨m,⟨o,es,ep,ho,r⟩,_⟩:=id I.loc
  obtain ⟨sl,hL⟩:=u.any ho I.free fun z=>(hch _ z).2.1 rfl
  exact I.stepW (ch:=ch) hch (fun b o hL hb hc e n=>u.keep b o e n (fun z=>(List.mem_cons.mp (I.stkSub b z)).elim hL hb) hc) (fun b o _ _ hc e n=>u.any e n hc) (fun b o hc e n=>u.free b o e n hc) (fun b o hc e=>u.there b o e hc) u.tups u.frzs u.tbls (fun m' hm=>by
    obtain ⟨o',es',ep',ho',r'⟩:=hm
    rw [ho] at ho'; cases ho'
    exact ⟨_,es',ep',hL,r'⟩) hok hg
end
theorem ObjOk.there {P:Program} {w:World} {H:Hp} {h:Heap} {a:Addr} {o:HO} (x:ObjOk P w H h a o):∃ ob,h.get? a = some ob:=by
  cases o with
  | lst xs=>obtain ⟨_,_,_,_,e⟩:=x; exact ⟨_,e⟩
  | tup xs=>obtain ⟨_,_,_,⟨o,e,_⟩⟩:=x; exact ⟨o,e⟩
  | dK kvs=>obtain ⟨_,_,_,_,o,_,_,e,_⟩:=x; exact ⟨_,e⟩
  | dT kvs=>obtain ⟨_,_,_,_,o,_,_,e,_⟩:=x; exact ⟨_,e⟩
  | set S n=>obtain ⟨o,_,_,_,e,_⟩:=x; exact ⟨_,e⟩
  | ins C dx fs=>obtain ⟨_,_,_,e,_⟩:=x; exact ⟨_,e⟩
  | own y=>exact x
  | xd fs=>obtain ⟨_,⟨_,_,_,e,_⟩,_⟩:=x; exact ⟨_,e⟩
  | rng lo hi=>obtain ⟨_,_,_,e⟩:=x; exact ⟨_,e⟩
  | frz ob u=>exact ⟨_,x.1⟩
  | tbl ps=>exact ⟨_,show h.get? a = some _ from x⟩
  | met f y=>exact ⟨_,show h.get? a = some _ from x⟩
  | ext φ=>exact x.2.1
def CXx (P:Program) (w:World):CXT:=fun outer H s E e s'=>∃ ea C T H',e = .ref ea ∧ s'.os = s.os ∧ AllBare s'.gens ∧ Un (frs outer) [] H H' s.heap s'.heap ∧ HOk P w H' s'.heap ∧ TrdAt s'.heap ea (.ref C) T .none ∧
  s.heap.get? ea = none ∧ s.heap.get? T = none ∧ H' ea = none ∧ H' T = none ∧ E (.ref C) (some ea) H'
section
variable {X:Cx} {pins:List (Addr × Obj)} {σ:List (Option V)} {H:Hp} {s:Shared}
def Own (X:Cx) (pins:List (Addr × Obj)) (b:Addr):Prop:=X.s₀.heap.get? b = none ∧ b ≠ X.env.locals ∧ (∀ x c,X.env.cells.lookup x = some c → c ≠ b) ∧ ∀ p ∈ X.pn ++ pins,p.1 ≠ b
theorem Inv.freshX (I:Inv X pins σ H s) (hx:X.ex = []) {b:Addr} (hb:s.heap.get? b = none):Own X pins b:=by
  refine ⟨?_,fun z=>?_,fun x c ec z=>?_,fun p hp z=>?_⟩
  · cases q:X.s₀.heap.get? b with
    | none=>rfl
    | some o =>
      obtain ⟨o',e'⟩:=I.base.there b o q (by rw [hx]; simp)
      rw [hb] at e'; cases e'
  · obtain ⟨m,⟨o,_,_,ho,_⟩,_⟩:=I.loc
    rw [← z,hb] at ho; cases ho
  · obtain ⟨v,o,ho,_⟩:=I.cell x c ec
    rw [z,hb] at ho; cases ho
  · have:=(I.pin p hp).1
    rw [z,hb] at this; cases this
theorem Inv.freeX (I:Inv X pins σ H s) {b:Addr} (hb:s.heap.get? b = none):H b = none:=by
  cases q:H b with
  | none=>rfl
  | some u =>
    obtain ⟨ob,hob⟩:=(I.hok b u q).there
    rw [hb] at hob; cases hob
theorem Inv.keptX {h'':Heap} {ea T:Addr} (I:Inv X pins σ H s) (hea:H ea = none) (hT:H T = none) (oa:Own X pins ea) (oT:Own X pins T) (k:KeptX (frs X.stack) ea T s.heap h''):Inv X pins σ H { s with heap:=h'' }:=by
  have u:Un (frs X.stack) [ea,T] H H s.heap h'':=by
    refine ⟨fun b o e n hb hx=>?_,fun b o e n hb hx=>k.slot b o e hb,fun b o e n hx=>n,fun b o e hx=>?_,fun b xs e=>e,fun b o xs e=>e,fun b ps e=>⟨#[],by rw [e]; simp⟩⟩
    · have hx':¬ (b = ea ∨ b = T):=by simpa using hx
      exact k.keep b o e hb (fun z=>hx' (.inl z)) fun z=>hx' (.inr z)
    · have hx':¬ (b = ea ∨ b = T):=by simpa using hx
      by_cases hb:b ∈ frs X.stack
      · obtain ⟨sl,q⟩:=k.slot b o e hb
        exact ⟨_,q⟩
      · exact ⟨o,k.keep b o e hb (fun z=>hx' (.inl z)) fun z=>hx' (.inr z)⟩
  have hok:HOk X.prog X.w H h'':=fun b o e=>(I.hok b o e).stay (fun c v hc q=>by
    have hc':∃ u,H c = some u:=by
      rcases hc with z | z
      · exact ⟨o,by rw [z]; exact e⟩
      · exact ⟨_,z⟩
    obtain ⟨u',hu⟩:=hc'
    exact k.keep c v q (fun z=>by rw [I.stkFree c z] at hu; cases hu) (fun z=>by rw [z,hea] at hu; cases hu) fun z=>by rw [z,hT] at hu; cases hu) (fun _ q=>q) fun _ _ q=>q
  exact I.callW (g':=s.gens) (t':=s.toks) (d':=s.drawn) (ch:=[ea,T]) u hok I.bare fun b hb=>by
    have hb':b = ea ∨ b = T:=by simpa using hb
    rcases hb' with z | z <;> subst z
    · exact ⟨.inr oa.1,oa.2⟩
    · exact ⟨.inr oT.1,oT.2⟩
theorem note_still {M:Model} {A:Around} {E:Value → Shared → Prop} {Q:Unit → Shared → Prop} {ea T:Addr} {cls:Value} (I:Inv X pins σ H s) (hx:X.ex = []) (stk:X.stack = X.env :: X.outer) (fr:X.env.frame = some X.env.locals) (hA:A.frames = some X.stack)
    (tr:TrdAt s.heap ea cls T .none) (hea:H ea = none) (hT:H T = none) (oa:Own X pins ea) (oT:Own X pins T)
    (h:∀ h' T',Inv X pins σ H { s with heap:=h' } → TrdAt h' ea cls T' .none → H T' = none → Own X pins T' → Q () { s with heap:=h' }) :
    wpAny M A (noteFrame (.ref ea) X.env) (fun _ s'=>wpAny M A (setFlight (.ref ea) none) Q E s') E s:=by
  refine fly_note (base:=X.base) (outer:=X.outer) (L:=X.env.locals) (by rw [hA,stk]) (by rw [← stk]; exact I.stack) fr tr fun h' T' hn ht' hk=>?_
  rw [← stk] at hk
  have I1:=I.keptX hea hT oa oT hk
  have hT':=I.freeX hn
  have oT':=I.freshX hx hn
  refine fly_still (s:={ s with heap:=h' }) (base:=X.base) (outer:=X.stack) ht' I1.stack fun h2 ht2 hk2=>?_
  exact h h2 T' (I1.keptX hea hT' oa oT' hk2) ht2 hT' oT'
theorem note_first {M:Model} {A:Around} {E:Value → Shared → Prop} {Q:Unit → Shared → Prop} {ea:Addr} {oe:Obj} {vs:Array Value} (I:Inv X pins σ H s) (hx:X.ex = []) (stk:X.stack = X.env :: X.outer) (fr:X.env.frame = some X.env.locals) (hA:A.frames = some X.stack)
    (he:s.heap.get? ea = some oe) (hd:oe.data = .fields vs) (h1:vs[1]? = some .none) (h2c:vs[2]? = some .none) (hdi:oe.dict = none) (hea:H ea = none) (oa:Own X pins ea)
    (h:∀ h' T',Inv X pins σ H { s with heap:=h' } → TrdAt h' ea oe.cls T' .none → H T' = none → Own X pins T' → Q () { s with heap:=h' }) :
    wpAny M A (noteFrame (.ref ea) X.env) (fun _ s'=>wpAny M A (setFlight (.ref ea) none) Q E s') E s:=by
  refine fly_first (base:=X.base) (outer:=X.outer) (L:=X.env.locals) (by rw [hA,stk]) (by rw [← stk]; exact I.stack) fr he hd h1 h2c hdi fun h' T' hn ht' hk=>?_
  rw [← stk] at hk
  have I1:=I.keptX hea hea oa oa hk
  have hT':=I.freeX hn
  have oT':=I.freshX hx hn
  refine fly_still (s:={ s with heap:=h' }) (base:=X.base) (outer:=X.stack) ht' I1.stack fun h2 ht2 hk2=>?_
  exact h h2 T' (I1.keptX hea hT' oa oT' hk2) ht2 hT' oT'
structure Leaves (X:Cx) (E₀:XK):Prop where
  ex:X.ex = []
  stk:X.stack = X.env :: X.outer
  fr:X.env.frame = some X.env.locals
  xe:X.xe = fun e s'=>wpAny (model X.prog X.w) X.A (leaving X.env e) (fun _ s''=>CXx X.prog X.w X.outer X.H₀ X.s₀ E₀ e s'') (fun e' s''=>CXx X.prog X.w X.outer X.H₀ X.s₀ E₀ e' s'') s'
theorem leaves_cx {P:Program} {w:World} {K:PySem.W.Frag} {mg:Str → Option Value} {base:Heap} {N:List Str} {qual:Str} {scope:Scope} {f:Addr} {cd:Value} {A:Around} {outer:List Env} {s:Shared} {H:Hp} {E:XK} :
    Leaves (cxOf (CXx P w) P w K mg base N qual scope f cd A outer s H E) E:=⟨rfl,rfl,rfl,rfl⟩
theorem Inv.cxx {ea C T:Addr} {E₀:XK} (I:Inv X pins σ H s) (hx:X.ex = []) (tr:TrdAt s.heap ea (.ref C) T .none) (hea:H ea = none) (hT:H T = none) (oa:Own X pins ea) (oT:Own X pins T) (hq:E₀ (.ref C) (some ea) H) :
    CXx X.prog X.w X.outer X.H₀ X.s₀ E₀ (.ref ea) s:=by
  have u:=I.base
  rw [hx] at u
  exact ⟨ea,C,T,H,rfl,I.os,I.bare,u,I.hok,tr,oa.1,oT.1,hea,hT,hq⟩
abbrev veM:List Value:=[.type "ValueError", .type "Exception", .type "BaseException", .type "object"]
def ExObj (K:PySem.W.Frag) (C:Addr):Prop:=∃ bm N nm q bs hdct sn sub ab col dd k0 k1 k2 k3 k5,K.lookup C = some (excClassObj nm q C N bs bm hdct sn sub ab col dd k0 k1 k2 k3 k5 "ValueError.__new__") ∧
  PySem.W.nsOkIn K N = true ∧ PySem.W.nsIn K N "__init__" = some none ∧ PySem.W.tailIn K veM bm = true
def tRaise (C:Addr) (E₀:XK):TS:=fun _ _ H=>∀ ea,H ea = none → E₀ (.ref C) (some ea) H
theorem ps_raise {E₀:XK} (L:Leaves X E₀) (hc:X.calm = true) {x:Str} {m:Str} {k:Nat} {C:Addr} {np cp cpos pos:Pos} (hg:Gl X x) (hm:X.mg x = some (.ref C)) (hx:ExObj X.K C) (hd:(x == ("__debug__" : Str)) = false:=by decide) :
    PS X (.Raise (some (.Call (.Name x np) [.Constant (.str m) k cp] [] cpos)) none pos) (tRaise C E₀):=by
  intro pins s σ H D I h
  obtain ⟨bm,N,nm,q,bs,hdct,sn,sub,ab,col,dd,k0,k1,k2,k3,k5,hC,hN,hni,hT⟩:=hx
  have FB:=PySem.F.excBase_ValueError
  have T0:OwnTail X.base veM bm:=PySem.W.tail_of_in I.ok.mod.kin hT
  have Ns0:X.base.Ns N (X.base.nsMap N):=.of_isNs (PySem.W.isNs_of_in I.ok.mod.kin hN)
  refine wpAny_Raise_call_subT (C:=C) (nm:=nm) (q:=q) (N:=N) (bs:=bs) (bm:=bm) (hdct:=hdct) (sn:=sn) (sub:=sub) (ab:=ab) (col:=col) (dd:=dd) (k0:=k0) (k1:=k1) (k2:=k2) (k3:=k3) (k5:=k5)
    FB (mN:=X.base.nsMap N) (T0.hasType FB.hasBase) (I.ok.hd hc) rfl (PySem.W.nsMap_none_of_in I.ok.mod.kin hN hni) (ld_glob I hg hm ⟨rfl,?_⟩ hd)
  refine Calls.evalArgs_plain (x:=eval (.Constant (.str m) k cp) X.env) (Calls.spliced_cons ?_)
  refine Calls.Constant_str (k:=k) (pos:=cp) ?_
  refine Calls.spliced_nil ?_
  have I1:Inv X pins σ H { s with toks:=s.toks + 1 }:=I.tok _
  refine ⟨rfl,(by show 1 ≤ sizeLine; decide),I1.bk _ _ (I1.ok.mod.kin _ _ hC),Ns0.keeps I1.bk,T0.keeps I1.bk,fun h1 e hx=>?_⟩
  obtain ⟨t,he,htn,ht⟩:=hx.there
  have hkeep:=hx.keeps
  have hne:H e = none:=I.freeX hx.new
  have oe:=I.freshX L.ex hx.new
  have I2:Inv X pins σ H { s with heap:=h1,toks:=s.toks + 1 }:=I1.kept (t':=s.toks + 1) hkeep
  rw [L.xe]
  unfold leaving
  refine wpAny_bind (note_first (s:={ s with heap:=h1,toks:=s.toks + 1 }) I2 L.ex L.stk L.fr I.ok.frames he rfl rfl rfl rfl hne oe fun h' T' I3 tr' hT' oT'=>?_)
  exact I3.cxx L.ex tr' hne hT' oe oT' (h e hne)
theorem Fun.okx {P:Program} {w:World} {K:PySem.W.Frag} {mg:Str → Option Value} {base:Heap} {x qual:Str} {st:Stmt} {f:Addr} {fd:FuncData} {N ps:List Str} {k:Nat} {sp:Sp} (F:Fun K x qual st f fd) (S:FnScope N ps (defScope st)) (len:∀ vs H Q E,sp vs H Q E → vs.length = ps.length)
    (hbody:∀ (cdv:Value) (A:Around) (outer:List Env) (s:Shared) (H:Hp) (vs:List V) (Q:VK) (E:XK),Room k (A.deeper (envOfC qual (defScope st) s.heap.objs.size f cdv)) → sp vs H Q E →
      ∃ t,PSs (cxOf (CXx P w) P w K mg base N qual (defScope st) f cdv A outer s H E) (defBody st) t ∧ t { nx:=fun _ H'=>Q .non H',rt:=Q } (start N vs) H):FnOk P w K mg base (CXx P w) (k + 1) f fd ps sp:=by
  obtain ⟨oc,od,kV,doc,pm,an,cdv,ct,osl,rfl,lk,hcd⟩:=F.ex
  exact fn_of lk hcd S len fun A outer s H vs Q E hr hsp=>hbody cdv A outer s H vs Q E hr hsp
end
end L2
set_option Elab.async false
set_option linter.all false
set_option maxRecDepth 100000
namespace L2
open PySem PySem.Spec PyProof.Rows
section
variable {X:Cx} {pins:List (Addr × Obj)} {σ:List (Option V)} {H:Hp} {s:Shared}
def exo (C ea:Addr):HO:=.ext fun h=>∃ o vs,h.get? ea = some o ∧ o.cls = .ref C ∧ o.dict = none ∧ o.data = .fields vs ∧ vs[2]? = some .none
theorem exo_ok {P:Program} {w:World} {h:Heap} {ea C T:Addr} {fl:Value} (tr:TrdAt h ea (.ref C) T fl):ObjOk P w H h ea (exo C ea):=by
  obtain ⟨oe,vs,oT,ts,he,hc,hdi,hd,_,h2c,_⟩:=tr
  exact ⟨⟨oe,vs,he,hc,hdi,hd,h2c⟩,⟨oe,he⟩,fun h1 h2 ⟨o,us,e,c⟩ k=>⟨o,us,k o e,c⟩⟩
theorem Inv.takeX {ea:Addr} {o:HO} (I:Inv X pins σ H s) (hea:H ea = none) (oa:Own X pins ea) (new:ObjOk X.prog X.w (upd H ea o) s.heap ea o):Inv X pins σ (upd H ea o) s:=by
  have ne:∀ b u,H b = some u → b ≠ ea:=fun b u e=>ne_of_none e hea
  have u:Un (frs X.stack) [ea] H (upd H ea o) s.heap s.heap:=by
    refine ⟨fun b o e n hb hx=>e,fun b o e n hb hx=>⟨o.slots,e⟩,fun b o e n hx=>?_,fun b o e hx=>⟨o,e⟩,fun b xs e=>?_,fun b o xs e=>?_,fun b ps e=>⟨#[],?_⟩⟩
    · rw [upd_ne (by simpa using hx)]; exact n
    · rw [upd_ne (ne b _ e)]; exact e
    · rw [upd_ne (ne b _ e)]; exact e
    · rw [upd_ne (ne b _ e),e]; simp
  have hok:HOk X.prog X.w (upd H ea o) s.heap:=fun b v e=>by
    by_cases hb:b = ea
    · subst hb; rw [upd_same] at e; cases e; exact new
    · rw [upd_ne hb] at e
      exact (I.hok b v e).stay (fun c v _ q=>q) (fun c q=>by rw [upd_ne (ne c _ q)]; exact q) fun c xs q=>by rw [upd_ne (ne c _ q)]; exact q
  exact I.callW (h':=s.heap) (g':=s.gens) (t':=s.toks) (d':=s.drawn) (ch:=[ea]) u hok I.bare fun b hb=>by
    have z:b = ea:=by simpa using hb
    subst z
    exact ⟨.inr oa.1,oa.2⟩
theorem Inv.forget {h':Heap} {m':Str → Option Value} {t':Nat} (I:Inv X pins σ H s) (hn:h'.Ns X.env.locals m') (hs:Heap.SameBut X.env.locals s.heap h'):Inv X pins (List.replicate σ.length none) H { s with heap:=h',toks:=t' }:=by
  have ne:∀ b o,X.s₀.heap.get? b = some o → b ≠ X.env.locals:=fun b o e=>Nat.ne_of_lt (Nat.lt_of_lt_of_le (Heap.lt_size e) I.ok.above)
  refine ⟨I.ok,I.os,I.bare,⟨fun b o e n hb hx=>(hs.2 b (ne b o e)).trans (I.base.keep b o e n hb hx),fun b o e n hb hx=>?_,I.base.free,fun b o e hx=>?_,I.base.tups,I.base.frzs,I.base.tbls⟩,⟨m',hn,fun i x v e1 e2 e3=>?_⟩,fun y c e=>?_,I.free,I.freeC,fun p hp=>?_,fun b o e=>?_,by rw [List.length_replicate]; exact I.len⟩
  · obtain ⟨sl,e1⟩:=I.base.slot b o e n hb hx
    exact ⟨sl,(hs.2 b (ne b o e)).trans e1⟩
  · obtain ⟨o',e1⟩:=I.base.there b o e hx
    exact ⟨o',(hs.2 b (ne b o e)).trans e1⟩
  · rw [List.getElem?_replicate] at e2
    split at e2 <;> cases e2
  · obtain ⟨w',z⟩:=I.cell y c e
    exact ⟨w',z.sameBut hs (I.cne y c e)⟩
  · obtain ⟨e,n,ne',nf,d⟩:=I.pin p hp
    exact ⟨(hs.2 p.1 ne').trans e,n,ne',nf,d⟩
  · refine (I.hok b o e).stay (fun c v hc q=>(hs.2 c ?_).trans q) (fun _ q=>q) fun _ _ q=>q
    rintro rfl
    rcases hc with rfl | hc
    · rw [I.free] at e; cases e
    · rw [I.free] at hc; cases hc
abbrev Cx.pinX (X:Cx) (pins:List (Addr × Obj)) (xe:Value → Shared → Prop):Cx:={ X with pn:=X.pn ++ pins,xe:=xe }
theorem Inv.pinX {xe:Value → Shared → Prop} (I:Inv X pins σ H s):Inv (X.pinX pins xe) [] σ H s :=
  have o:=I.ok
  ⟨⟨o.mod,o.kind,o.glob,o.blt,o.above,o.inj,o.has,o.cab,o.hd,o.frames,o.stk,o.exf,o.bs,o.bsz,o.noex,o.exfs,o.funs,o.frf⟩,I.os,I.bare,I.base,I.loc,I.cell,I.free,I.freeC,fun p hp=>I.pin p (by simpa using hp),I.hok,I.len⟩
theorem Inv.unpinX {xe:Value → Shared → Prop} {pins2:List (Addr × Obj)} (I:Inv (X.pinX pins xe) pins2 σ H s):Inv X pins σ H s :=
  have o:=I.ok
  ⟨⟨o.mod,o.kind,o.glob,o.blt,o.above,o.inj,o.has,o.cab,o.hd,o.frames,o.stk,o.exf,o.bs,o.bsz,o.noex,o.exfs,o.funs,o.frf⟩,I.os,I.bare,I.base,I.loc,I.cell,I.free,I.freeC,fun p hp=>I.pin p (List.mem_append_left _ hp),I.hok,I.len⟩
abbrev Cx.inExc (X:Cx) (e:Value):Cx:={ X with A:=X.A.mark (some e),calm:=false,xe:=fun _ _=>False }
theorem Inv.inExc {e:Value} (I:Inv X pins σ H s):Inv (X.inExc e) pins σ H s :=
  have o:=I.ok
  ⟨⟨o.mod,o.kind,o.glob,o.blt,o.above,o.inj,o.has,o.cab,fun z=>(Bool.false_ne_true z).elim,o.frames,o.stk,o.exf,o.bs,o.bsz,o.noex,o.exfs,o.funs,o.frf⟩,I.os,I.bare,I.base,I.loc,I.cell,I.free,I.freeC,I.pin,I.hok,I.len⟩
theorem Inv.outExc {e:Value} (ok:X.Ok) (I:Inv (X.inExc e) pins σ H s):Inv X pins σ H s:=⟨ok,I.os,I.bare,I.base,I.loc,I.cell,I.free,I.freeC,I.pin,I.hok,I.len⟩
theorem handle_exm {prog:Program} {w:World} {A:Around} {E:Value → Shared → Prop} {s:Shared} {env:Env} {e R:Addr} {t:Expr} {n:Str} {b₀:Stmt} {suite:List Stmt} {pos:Pos} {rest:List ExceptHandler} {Q:Flow → Shared → Prop}
    (h:wpAny (model prog w) (A.mark (some (.ref e))) (eval t env) (fun c s₁=>c = .ref R ∧ PySem.W.Looks (model prog w) s₁.heap (excMatches (.ref e) (.ref R)) true ∧
      wpAny (model prog w) (A.mark (some (.ref e))) (setFlight (.ref e) none) (fun _ s₂=>wpAny (model prog w) (A.mark (some (.ref e))) (storeName env n (.ref e)) (fun _ s₃ =>
            wpAny (model prog w) (A.mark (some (.ref e))) (execs (b₀ :: suite) env)
              (fun f s₄=>wpAny (model prog w) A (do bindName env n .none; unbindBehindTheSuite env n pos) (fun _ s₅=>Q f s₅) E s₄) (fun _ _=>False) s₃) (fun _ _=>False) s₂) (fun _ _=>False) s₁) (fun _ _=>False) s) :
    wpAny (model prog w) A (handleBy (.ref e) env (.ExceptHandler (some t) (some n) (b₀ :: suite) pos :: rest)) Q E s:=by
  refine wpAny_handleBy_cons (codeAny_handlers_test (wpAny_mono h (fun c s₁ h₁=>?_) fun _ _ z=>z.elim)) (by intro q; cases q)
  obtain ⟨rfl,LT,hk⟩:=h₁
  exact LT.here (codeAny_handlers_suite_as (wpAny_mono hk (fun _ s₂ h₂=>wpAny_mono h₂ (fun _ s₃ h₃=>wpAny_mono h₃ (fun _ _ z=>z) fun _ _ z=>z.elim) fun _ _ z=>z.elim) fun _ _ z=>z.elim))
def tTry (K:PySem.W.Frag) (R:Addr) (k:Nat) (tb:XK → TS) (ts:Value → TS):TS:=fun D σ H =>
  tb (fun c a H'=>∃ C ea,c = .ref C ∧ a = some ea ∧ PySem.W.exmOne K (.ref C) (.ref R) = some true ∧ ∀ σ':St,σ'.length = σ.length → ts (.ref ea) { nx:=fun _ _=>False,rt:=D.rt } (σ'.set k (some (.ref ea))) (upd H' ea (exo C ea))) D σ H
theorem ps_try {x n:Str} {R:Addr} {k:Nat} {tb:XK → TS} {ts:Value → TS} {body suite:List Stmt} {b₀:Stmt} {np hpos pos:Pos} (hex:X.ex = []) (stk:X.stack = X.env :: X.outer) (fr:X.env.frame = some X.env.locals) (hN:X.N.Nodup) (hk:X.N[k]? = some n) (hl:X.env.scope.names.lookup n = some .local)
    (hg:Gl X x) (hm:X.mg x = some (.ref R)) (hb:∀ pins xe E,Passes (CXx X.prog X.w) (X.pinX pins xe) E → PSs (X.pinX pins xe) body (tb E)) (hs:∀ e,PSs (X.inExc e) (b₀ :: suite) (ts e)) (hd:(x == ("__debug__" : Str)) = false:=by decide) :
    PS X (.Try body [.ExceptHandler (some (.Name x np)) (some n) (b₀ :: suite) hpos] [] [] pos) (tTry X.K R k tb ts):=by
  intro pins s σ H D I h
  refine wpAny_Try_except ?_
  obtain ⟨E0,hE0⟩:∃ E0:XK,E0 = (fun c a H'=>∃ C ea,c = .ref C ∧ a = some ea ∧ PySem.W.exmOne X.K (.ref C) (.ref R) = some true ∧ ∀ σ':St,σ'.length = σ.length → ts (.ref ea) { nx:=fun _ _=>False,rt:=D.rt } (σ'.set k (some (.ref ea))) (upd H' ea (exo C ea))):=⟨_,rfl⟩
  have h0:tb E0 D σ H:=by rw [hE0]; exact h
  obtain ⟨xe,hxe⟩:∃ xe:Value → Shared → Prop,xe = fun e s'=>∃ σ' H' ea C T,e = .ref ea ∧ Inv X pins σ' H' s' ∧ TrdAt s'.heap ea (.ref C) T .none ∧ H' ea = none ∧ H' T = none ∧ Own X pins ea ∧ Own X pins T ∧ E0 (.ref C) (some ea) H':=⟨_,rfl⟩
  have hpass:Passes (CXx X.prog X.w) (X.pinX pins xe) E0:=by
    intro pins2 σ2 H2 s2 e s' I2 hx
    obtain ⟨ea,C,T,H',rfl,os,bare,un,hok,tr,ne,nT,he,hT,hq⟩:=hx
    have I2':Inv X pins σ2 H2 s2:=I2.unpinX
    have I3:Inv X pins σ2 H' s':=I2'.call' (ch:=[]) os un hok bare fun b z=>nomatch z
    show xe _ _
    rw [hxe]
    exact ⟨σ2,H',ea,C,T,rfl,I3,tr,he,hT,I2'.freshX hex ne,I2'.freshX hex nT,hq⟩
  refine wpAny_mono (hb pins xe E0 hpass [] s σ H D I.pinX h0) (fun f s1 q=>?_) (fun e s1 q=>?_)
  · cases f with
    | next=>obtain ⟨σ',H',I',q⟩:=q; exact wpAny_execs_nil ⟨σ',H',I'.unpinX,q⟩
    | brk=>obtain ⟨σ',H',I',q⟩:=q; exact ⟨σ',H',I'.unpinX,q⟩
    | cont=>obtain ⟨σ',H',I',q⟩:=q; exact ⟨σ',H',I'.unpinX,q⟩
    | ret u=>obtain ⟨v,σ',H',I',q⟩:=q; exact ⟨v,σ',H',I'.unpinX,q⟩
  · have q:xe e s1:=q
    rw [hxe] at q
    obtain ⟨σ',H',ea,C,T,rfl,I',tr,hea,hT,oea,oT,q⟩:=q
    rw [hE0] at q
    obtain ⟨C',ea',e1,e2,hx,hq⟩:=q
    cases e1; cases e2
    refine note_still I' hex stk fr I.ok.frames tr hea hT oea oT fun h2 T2 I2 tr2 hT2 oT2=>?_
    refine handle_exm (R:=R) ?_
    refine ld_glob (X:=X.inExc (.ref ea)) I2.inExc hg hm ⟨rfl,?_,?_⟩ hd
    · obtain ⟨oe,vs,_,_,he,hc,_⟩:=id tr2
      exact PySem.W.exm_one I2.kIn (hc ▸ (PySem.W.Looks.ld he).andThen .now) hx
    · refine fly_still (base:=X.base) (outer:=X.stack) tr2 I2.stack fun h3 tr3 hk3=>?_
      have I3:=I2.keptX hea hT2 oea oT2 hk3
      have I4:=I3.takeX (o:=exo C ea) hea oea (exo_ok tr3)
      refine store_ok (X:=X.inExc (.ref ea)) (v:=.ref ea) I4.inExc hN hk (.inl hl) rfl (fun s' I5=>?_) (.inr hl)
      refine wpAny_mono (hs _ pins s' _ _ _ I5 (hq σ' (by rw [I'.len,I.len]))) (fun f s5 q=>?_) (fun _ _ z=>z)
      cases f with
      | next=>obtain ⟨_,_,_,q⟩:=q; exact q.elim
      | brk=>obtain ⟨_,_,_,q⟩:=q; exact q.elim
      | cont=>obtain ⟨_,_,_,q⟩:=q; exact q.elim
      | ret u =>
        obtain ⟨v,σ5,H5,I6,r,q⟩:=q
        have I6':Inv X pins σ5 H5 s5:=Inv.outExc I.ok I6
        obtain ⟨m,hn,_⟩:=id I6'.loc
        refine wpAny_nameGoes hl hn (by rw [I.ok.kind]; rfl) fun h' m' hn' hs'=>?_
        exact ⟨v,_,H5,I6'.forget hn' hs',r,q⟩
structure ExCls (K:PySem.W.Frag) (C:Addr):Prop where
  ga:PySem.W.findIn K (.ref C) "__getattribute__" = some (some (.builtin "BaseException.__getattribute__"))
  gt:PySem.W.findIn K (.ref C) "__getattr__" = some none
  fc:PySem.W.findIn K (.ref C) "__class__" = some (some (.builtin "object.__class__"))
  mro:PySem.W.mroIn K C (.type "object") = some true
  be:PySem.W.subIn K (.ref C) (.type "BaseException") = some true
  cls:(PySem.W.clsIn K C).isSome = true
section
variable {prog:Program} {w:World} {A:Around} {E:Value → Shared → Prop} {K:PySem.W.Frag} {x C:Addr} {ox:Obj} {h:Heap} {g:Array GenState} {d:Drawn} {t:Nat} {os:OsState}
theorem class_entry_exc {tk:Tok} {Q:Fin → Shared → Prop} (c:ExCls K C) (KX:K.In h) (I:PySem.W.InstAt h x ox C none) (hq:Q (.done (.ret (.ref C))) ⟨h,g,d,t,os⟩) :
    wpAny (model prog w) A (Builtin.«object.__getattribute__» ⟨[.ref x,.str "__class__" tk],[]⟩) Q E ⟨h,g,d,t,os⟩:=by
  have hx:=I.at_
  have hc:=I.cls
  have hT5:(⟨h,g,d,t,os⟩:Shared).TypeIs (.builtin "object.__class__") "getset_descriptor" := F.typeOf_object_class
  have f5:=F.typeOf_object_class
  have f6:=F.slot_gs_get.lookup
  have f7:=F.slot_gs_set.lookup
  have L3:=PySem.W.looks_findIn (M:=model prog w) KX c.fc
  repeat (any_goals (first | assumption | (with_reducible refine wpAny_loadPart_at hx ?_; rw [hc]) | (with_reducible refine L3.at ?_) | wp_step))
  refine PySem.W.class_get (s:=⟨h,g,d,t,os⟩) (od:=none) KX I c.mro ?_
  repeat (any_goals (first | assumption | wp_step))
theorem check_ga_exc {nameV:Value} {Q:Unit → Shared → Prop} (c:ExCls K C) (KX:K.In h) (I:PySem.W.InstAt h x ox C none) (hq:Q () ⟨h,g,d,t,os⟩):wpAny (model prog w) A (checkBuiltinCall "BaseException.__getattribute__" ⟨[.ref x,nameV],[]⟩) Q E ⟨h,g,d,t,os⟩:=by
  have hk:builtinKind "BaseException.__getattribute__" = some .slot:=by decide +kernel
  have hsplit:splitId "BaseException.__getattribute__" = some ("BaseException", "__getattribute__"):=by decide +kernel
  have ha:=F.args_bexc_ga (.ref x) nameV
  have LI:PySem.W.Looks (model prog w) h (isInstance (.ref x) (.type "BaseException")) true:=(I.type (M:=model prog w)).andThen (PySem.W.looks_subIn KX c.be)
  simp only [checkBuiltinCall,hk,hsplit]
  refine wpAny_bind (LI.at ?_)
  repeat (any_goals (first | assumption | wp_step))
theorem class_by_exc {tk:Tok} {fill expr:Bool} {Q:Value → Shared → Prop} (c:ExCls K C) (KX:K.In h) (I:PySem.W.InstAt h x ox C none) (hq:Q (.ref C) ⟨h,g,d,t,os⟩) :
    wpAny (model prog w) A (getAttrBy (.ref x) (.str "__class__" tk) fill expr) Q E ⟨h,g,d,t,os⟩:=by
  have hx:=I.at_
  have hc:=I.cls
  have f3:=F.excAttr_ValueError.ga.bind (.ref x)
  have hx0:(expr && onTheHeap (Value.builtin "BaseException.__getattribute__")) = false:=by cases expr <;> rfl
  have hx2:(Value.builtin "BaseException.__getattribute__" == Value.builtin "object.__getattribute__") = false:=by decide +kernel
  have hx1:(onTheHeap (Value.ref C) && Value.builtin "BaseException.__getattribute__" == Value.builtin "object.__getattribute__") = false:=by rw [hx2]; rfl
  have L1:=PySem.W.looks_findIn (M:=model prog w) KX c.ga
  have L2:=PySem.W.looks_findIn (M:=model prog w) KX c.gt
  repeat (any_goals (first | assumption | (with_reducible refine wpAny_loadPart_at hx ?_; rw [hc]) | (with_reducible refine L1.at ?_) | (with_reducible refine L2.at ?_) | wp_step))
  refine codeAny_call_builtin F.excAttr_ValueError.ga.plain F.entry_bexc_ga (check_ga_exc c KX I (class_entry_exc c KX I ?_))
  repeat (any_goals (first | assumption | wp_step))
theorem class_attr_exc {Q:Option Value → Shared → Prop} (c:ExCls K C) (KX:K.In h) (I:PySem.W.InstAt h x ox C none) (hq:Q (some (.ref C)) ⟨h,g,d,t + 1,os⟩):wpAny (model prog w) A (getAttr? (.ref x) "__class__") Q E ⟨h,g,d,t,os⟩:=by
  unfold getAttr? getAttrBy?
  repeat (any_goals (first | assumption | with_reducible apply class_by_exc c KX I | wp_step))
end
theorem kitx_exc {K:PySem.W.Frag} {x D:Addr} (c:ExCls K D):PySem.W.KitX K (.ref x) (.ref D) (fun h=>∃ ox,PySem.W.InstAt h x ox D none) where
  ty:=fun _ _ _ ⟨_,I⟩=>I.type
  it:=fun _ _ X _=>by
    obtain ⟨cd,hcD⟩:=Option.isSome_iff_exists.mp c.cls
    unfold PySem.W.clsIn at hcD
    split at hcD
    · rename_i c' d' cd' sl' ho
      intro A' Q' E' s' k q
      unfold isType loadHead
      exact wpAny_bind (wpAny_loadPart (k _ _ (X _ _ ho)) (wpAny_pure q))
    · cases hcD
  ne:=fun h tp dd its n sl X htp=>by
    obtain ⟨cd,hcD⟩:=Option.isSome_iff_exists.mp c.cls
    refine Bool.eq_false_iff.mpr fun q=>?_
    have e:D = tp:=Value.ref.inj (beq_iff_eq.mp q)
    subst e
    unfold PySem.W.clsIn at hcD
    split at hcD
    · rename_i c' d' cd' sl' ho
      have z:=(X _ _ ho).symm.trans htp
      cases z
    · cases hcD
  ca:=fun {_ _ _ _ _ s} X ⟨ox,I⟩ k=>by
    obtain ⟨h,g,d,t,os⟩:=s
    exact class_attr_exc c X I k
theorem call_isexc:CallR X (.builtin "isinstance") (fun xs H Q=>∃ ea c C k b,xs = [.ref ea,c] ∧ H ea = some (exo C ea) ∧ ExCls X.K C ∧ clsV c = some k ∧ PySem.W.kitOne X.K (.ref C) k = some b ∧ Q (.bl b) H):=by
  intro pins s σ H xs us Q I r h
  obtain ⟨ea,c,C,k,b,e,ho,hC,hk,e2,q⟩:=h
  subst e
  obtain ⟨u,v,rfl,ru,rv⟩:=vals2 r
  have ev:v = k:=by
    cases c with
    | ref a=>cases rv; cases hk; rfl
    | ty n=>cases rv; cases hk; rfl
    | _=>cases hk
  subst ev
  cases (show u = Value.ref ea from ru)
  obtain ⟨⟨o,vs,h1,h2,h3,h4,_⟩,_⟩:=(show ObjOk X.prog X.w H s.heap ea (exo C ea) from I.hok ea _ ho)
  refine PySem.W.kia_one (kitx_exc hC) I.kIn ⟨o,h1,h2,?_,?_⟩ e2 (fun z=>nomatch z) fun tk=>⟨.bl b,H,I.tok tk,rfl,q⟩
  · unfold PySem.W.notCls; rw [h4]
  · rw [h3]; trivial
structure RoomH (k:Nat) (A:Around):Prop where
  dp:A.depth + 3 * k + 5 < recursionLimit
  un:A.units + 16 * k + 200 < cLine
theorem RoomH.mono {j k:Nat} {A:Around} (r:RoomH k A) (h:j ≤ k):RoomH j A:=⟨by have:=r.dp; omega,by have:=r.un; omega⟩
end
end L2
set_option Elab.async false
set_option linter.all false
set_option maxRecDepth 100000
namespace L2
open PySem PySem.Spec PyProof.Rows
section
variable {X:Cx} {pos:Pos}
end
section
variable {X:Cx}
theorem paired_of_get {α β:Type} {F:α → β → Prop}:∀ {l₁:List α} {l₂:List β},l₁.length = l₂.length → (∀ (i:Nat) x y,l₁[i]? = some x → l₂[i]? = some y → F x y) → Paired F l₁ l₂
  | [],[],_,_=>.nil
  | x :: r,y :: t,h,f=>.cons (f 0 x y rfl rfl) (paired_of_get (by simpa using h) fun i a b h1 h2=>f (i + 1) a b (by simpa using h1) (by simpa using h2))
  | [],_ :: _,h,_=>nomatch h
  | _ :: _,[],h,_=>nomatch h
theorem rng_items {acc:Array Value} {n:Nat} (h:ItemsOf (fun i v=>∃ t,v = .int (0 + i * 1) t) acc n):Vals ((List.range n).map fun (i:Nat)=>V.int i) acc.toList:=by
  refine paired_of_get (by rw [List.length_map,List.length_range,Array.length_toList,h.1]) fun i x y h1 h2=>?_
  rw [Array.getElem?_toList] at h2
  obtain ⟨t,rfl⟩:=h.2 i y h2
  rw [List.getElem?_map] at h1
  have hi:i < n:=by
    have:=(Array.getElem?_eq_some_iff.mp h2).1
    rw [h.1] at this
    exact this
  rw [List.getElem?_range hi] at h1
  cases h1
  exact ⟨t,by rw [Int.mul_one,Int.zero_add]⟩
theorem passNo {X:Cx} {P:Program} {w:World}:Passes (CXx P w) X (fun _ _ _=>False):=by
  intro pins σ H s e s' I h
  obtain ⟨ea,C,T,H',_,_,_,_,_,_,_,_,_,_,q⟩:=h
  exact q.elim
end
end L2
set_option Elab.async false
set_option linter.all false
set_option maxRecDepth 100000
namespace L2
open PySem PySem.Spec PyProof.Rows
section
variable {prog:Program} {w:World} {A:Around} {R:Result → Shared → Prop} {s:Shared}
end
section
variable {M:Model} {A:Around} {E:Value → Shared → Prop} {s:Shared} {base:Heap} {env:Env} {outer:List Env} {L e T:Addr}
end
section
variable {X:Cx} {pins:List (Addr × Obj)} {σ:St} {H:Hp} {s:Shared}
variable {sc:Scope} {N:List Str} {cp:List (Option Nat)} {tg iter elt:Expr} {pos:Pos} {g:TG} {te:TE} {wi:TI} {Sg:List Nat}
end
end L2
set_option Elab.async false
set_option linter.all false
set_option maxRecDepth 100000
namespace L2
open PySem PySem.Spec PyProof.Rows PySem.Builtin PySem.Builtin.Str
section
variable {X:Cx}
end
end L2
set_option Elab.async false
set_option linter.all false
set_option maxRecDepth 100000
namespace L2
open PySem PySem.Spec PyProof.Rows
theorem entry_unchain:entryFor table "proto.unchain" = some Builtin.«proto.unchain»:=entryFor_of_fast (by kernel_rfl)
def NoCtx (h:Heap) (ea:Addr):Prop:=∃ o vs,h.get? ea = some o ∧ o.data = .fields vs ∧ vs[2]? = some .none
section
variable {prog:Program} {w:World} {A:Around} {E:Value → Shared → Prop} {s:Shared}
theorem pyNext_list_endH {it l ea:Addr} {i:Nat} {items} {Q:Option Value → Shared → Prop} (hh:A.handled = some (.ref ea)) (hn:NoCtx s.heap ea) (hne:ea ≠ it)
    (hit:s.heap.IsListIter it l i) (hl:s.heap.IsList l items) (hx:items[i]? = none)
    (hQ:∀ h',Heap.ExtBut it s.heap h' → Q none { s with heap:=h' }):wpAny (model prog w) A (pyNext (.ref it)) Q E s:=by
  obtain ⟨oe,vs,hoe,hde,h2⟩:=hn
  obtain ⟨o,ho,hc,hd⟩:=id hit
  obtain ⟨ol,hol,_,nl,hdl⟩:=hl
  unfold pyNext
  refine wpAny_bind (wpAny_attempt (wpAny_callSpecial?_slot (name:=Str.ofString "__next__") hit.typeIs slot_listiter_next
    (wpAny_call_entry slot_listiter_next hit.typeIs entry_listiter_next ?_ (args_listiter_next _))))
  show wpAny _ _ (field (.ref it) 0 >>= _) _ _ s
  refine wpAny_bind (wpAny_field ho hd (x:=.ref l) rfl ?_)
  show wpAny _ _ (if (Value.ref l == Value.none) = true then _ else _) _ _ s
  rw [if_neg (show ¬ ((Value.ref l == Value.none) = true) from Bool.false_ne_true)]
  show wpAny _ _ (field (.ref it) 1 >>= _) _ _ s
  refine wpAny_bind (wpAny_field ho hd (x:=.int i 0) rfl ?_)
  show wpAny _ _ (seqItems? (.ref l) >>= _) _ _ s
  refine wpAny_bind (wpAny_seqItems hol hdl ?_)
  simp only [Int.toNat_natCast,hx]
  refine wpAny_bind (wpAny_rule (wpAny_bind (wpAny_setField ho hd (by simp) ?_)))
  show wpAny _ _ (newExc (.type "StopIteration") [] >>= _) _ _ _
  refine wpAny_bind ?_
  simp only [newExc,newTuple]
  refine wpAny_bind (wpAny_newObj_type ?_ (by size_fits))
  refine wpAny_bind (m:=firstArgMember _ _) (wpAny_of_eq (a:=Value.none) (by first | rfl | (simp only [firstArgMember]; rfl)) ?_)
  refine wpAny_newObj_type ?_ (by size_fits)
  simp only [raiseNew]
  refine wpAny_bind (wpAny_handled ?_)
  rw [show A.in1.handled = some (.ref ea) from hh]
  generalize hN:(((s.heap.update it (Obj.mapFields fun x=>x.setIfInBounds 0 Value.none)).push { cls:=Value.type "tuple", data:=Data.seq #[] }):Heap) = hp
  have ext:Heap.ExtBut it s.heap hp:=by rw [← hN]; exact ((Heap.SameBut.update ..).extBut.push _)
  have he1:hp.get? ea = some oe:=ext ea oe hne hoe
  have hlt:ea ≠ hp.objs.size:=Nat.ne_of_lt (Heap.lt_size he1)
  show wpAny _ _ (if (Value.ref ea != Value.ref hp.objs.size) = true then _ else _) _ _ _
  rw [if_pos (show (Value.ref ea != Value.ref hp.objs.size) = true by simp [hlt])]
  refine wpAny_bind (wpAny_holding (runValue_entry entry_unchain ?_))
  unfold Builtin.«proto.unchain»
  show wpAny _ _ (field (.ref ea) 2 >>= _) _ _ _
  refine wpAny_bind (wpAny_field (Heap.get?_push_of_some _ he1) hde h2 ?_)
  rw [if_pos (show (Value.none == Value.none) = true from rfl)]
  refine wpAny_pure ⟨_,rfl,?_⟩
  generalize hO:({ cls:=Value.type "StopIteration", data:=Data.fields (#[Value.ref (s.heap.update it (Obj.mapFields fun x=>x.setIfInBounds 0 Value.none)).objs.size,Value.none,Value.none,Value.none,Value.bool false,Value.none] ++ ownMembersOf (Value.type "StopIteration") []) }:Obj) = oN
  have hnf:oN.isFreed = false:=by rw [← hO]; rfl
  have hNew:=Heap.get?_push_size hp hnf
  have hcN:oN.cls = .type "StopIteration" := by rw [← hO]
  refine wpAny_bind ?_
  show wpAny _ _ (setField (.ref hp.objs.size) 2 (.ref ea)) _ _ _
  refine wpAny_setField hNew (by rw [← hO]) (by simp; omega) ?_
  refine wpAny_throw ?_
  refine wpAny_bind (wpAny_isInstance (T := "StopIteration") (b:=true) ⟨_,Heap.get?_update_self _ hNew (Obj.isFreed_of_fields (Obj.data_mapFields (by rw [← hO]) _)),(Obj.cls_mapFields _ _).trans hcN⟩ isSubtype_stop ?_)
  refine wpAny_pure (hQ _ fun b o hb e=>?_)
  have hb1:=ext b o hb e
  rw [Heap.get?_update_other _ _ (Nat.ne_of_gt (Heap.lt_size hb1))]
  exact Heap.get?_push_of_some _ hb1
theorem Walks.listH {ea:Addr} (hh:A.handled = some (.ref ea)) (I ax:Addr) (hne:ax ≠ I) (hea:ea ≠ I) (items:Array Value) :
    Walks prog w A I [I,ax,ea] [I] items.size (fun i v=>items[i]? = some v) (fun i h=>(h.IsListIter I ax i ∧ h.IsList ax items) ∧ NoCtx h ea) where
  sub:=fun b hb=>by simp at hb; simp [hb]
  frame:=fun _ _ _ st hk=>⟨⟨st.1.1.at fun o e=>hk I (by simp) o e,st.1.2.at fun o e=>hk ax (by simp) o e⟩,by
    obtain ⟨o,vs,e,r⟩:=st.2
    exact ⟨o,vs,hk ea (by simp) o e,r⟩⟩
  item:=fun i s Q E hi st hQ=>by
    refine wpAny_pyNext_list_item st.1.1 st.1.2 (x:=items[i]) (by simp [hi]) fun h' hit' hs'=>?_
    refine hQ _ h' s.toks (by simp [hi]) ⟨⟨hit',st.1.2.extBut hs'.extBut hne⟩,?_⟩ fun b o hb e=>hs'.extBut b o (fun h=>hb (by simp [h])) e
    obtain ⟨o,vs,e,r⟩:=st.2
    exact ⟨o,vs,hs'.extBut ea o hea e,r⟩
  done:=fun s Q E st hQ=>pyNext_list_endH hh st.2 hea st.1.1 st.1.2 (by simp) fun h' he'=>hQ h' s.toks fun b o hb e=>he' b o (fun h=>hb (by simp [h])) e
  self:=fun _ _ _ _ st hQ=>wpAny_pyIter_listiter st.1.1 hQ
end
section
variable {X:Cx}
theorem call_anyH {e:Value}:CallR (X.inExc e) (.builtin "any") (fun xs H Q=>∃ (p:Addr) (bs:List Bool) (ea C:Addr),xs = [.ref p] ∧ e = .ref ea ∧ H ea = some (exo C ea) ∧ SqL X.K H p (bs.map V.bl) ∧ Q (.bl (bs.any id)) H):=by
  intro pins s σ H xs us Q I r h
  obtain ⟨p,bs,ea,C,e1,e2,hex,hq,q⟩:=h
  subst e1
  subst e2
  obtain ⟨u,rfl,ru⟩:=vals1 r
  cases ru
  obtain ⟨its,rv,pl,hz⟩:=I.list hq
  have hl:s.heap.IsList p its.toArray:=pl.isList
  have hlt:p < s.heap.objs.size:=by obtain ⟨o,ho,_⟩:=hl; exact Heap.lt_size ho
  have hlen:bs.length = its.length:=by have:=rv.length; rwa [List.length_map] at this
  obtain ⟨⟨oe,vs,he,_,_,hd,h2⟩,_⟩:=(show ObjOk X.prog X.w H s.heap ea (exo C ea) from I.hok ea _ hex)
  refine call_any_walk (wpAny_pyIter_list hl ?_)
  refine ⟨s.heap.objs.size,_,_,_,_,_,fun i=>bs.getD i true,rfl,Walks.listH (ea:=ea) rfl _ p (Nat.ne_of_lt hlt) (Nat.ne_of_lt (Heap.lt_size he)) its.toArray,⟨⟨⟨_,Heap.get?_push_size _ rfl,rfl,rfl⟩,hl.push _⟩,⟨oe,vs,Heap.get?_push_of_some _ he,hd,h2⟩⟩,?_,fun h' tk hk=>?_⟩
  · intro i v s' Q' E' hP hQ
    have hv:its[i]? = some v:=by simpa using hP
    have hib:i < its.length:=(List.getElem?_eq_some_iff.mp hv).1
    have hb:(bs.map V.bl)[i]? = some (V.bl (bs[i]'(by omega))):=by rw [List.getElem?_map,List.getElem?_eq_getElem (by omega)]; rfl
    obtain ⟨v',hv',rb⟩:=rv.get hb
    rw [hv] at hv'
    cases hv'
    cases rb
    refine wpAny_truthy_bool ?_
    have e:bs.getD i true = bs[i]'(by omega):=by rw [List.getD_eq_getElem?_getD,List.getElem?_eq_getElem (by omega)]; rfl
    have hQ':Q' (bs.getD i true) s':=hQ
    rw [e] at hQ'
    exact hQ'
  · have I2:Inv (X.inExc (.ref ea)) pins σ H { s with heap:=h',toks:=tk }:=I.kept fun b o e=>hk b o (by
      intro z
      have z':b = s.heap.objs.size:=by simpa using z
      rw [z'] at e
      exact absurd (Heap.lt_size e) (Nat.lt_irrefl _)) (Heap.get?_push_of_some _ e)
    refine ⟨.bl (bs.any id),H,I2,?_,q⟩
    show Value.bool _ = Value.bool _
    congr 1
    have e1:its.toArray.size = bs.length:=by rw [List.size_toArray,hlen]
    rw [e1]
    apply Bool.eq_iff_iff.mpr
    simp only [List.any_eq_true,List.mem_range,id]
    constructor
    · rintro ⟨n,hn,hh⟩
      rw [List.getD_eq_getElem?_getD,List.getElem?_eq_getElem hn] at hh
      exact ⟨_,List.getElem_mem hn,hh⟩
    · rintro ⟨x,hx,hh⟩
      obtain ⟨n,hn,rfl⟩:=List.mem_iff_getElem.mp hx
      refine ⟨n,hn,?_⟩
      rw [List.getD_eq_getElem?_getD,List.getElem?_eq_getElem hn]
      exact hh
end
end L2
set_option Elab.async false
set_option linter.all false
set_option maxRecDepth 100000
namespace L2
open PySem PySem.Spec PyProof.Rows
def cdo (qual:Str) (c:Addr):HO:=.ext fun h=>∃ o vs t,h.get? c = some o ∧ o.data = .fields vs ∧ vs[1]? = some (.str qual t)
def lmo (fd:FuncData) (f:Addr):HO:=.ext fun h=>h.get? f = some { cls:=.type "function", data:=.func fd }
def TabOk (H:Hp) (T:Addr) (pos:Pos) (qual:Str):Prop:=H T = some (.tbl #[]) ∨ ∃ c,H T = some (.tbl #[rawInt pos.line,rawInt pos.col,.ref c]) ∧ H c = some (cdo qual c)
def SameT (T:Addr) (H H':Hp):Prop:=∀ b o,b ≠ T → H b = some o → H' b = some o
theorem Same.sameT {T:Addr} {H H':Hp} (h:Same H H'):SameT T H H':=fun b o _ e=>h b o e
theorem SameT.trans {T:Addr} {H H1 H2:Hp} (a:SameT T H H1) (b:SameT T H1 H2):SameT T H H2:=fun c o n e=>b c o n (a c o n e)
theorem SameT.refl {T:Addr} {H:Hp}:SameT T H H:=fun _ _ _ e=>e
theorem TabOk.same {H H':Hp} {T:Addr} {pos:Pos} {qual:Str} (s:Same H H') (h:TabOk H T pos qual):TabOk H' T pos qual:=by
  rcases h with h | ⟨c,h1,h2⟩
  · exact .inl (s _ _ h)
  · exact .inr ⟨c,s _ _ h1,s _ _ h2⟩
structure LamOk (K:PySem.W.Frag) (mg:Str → Option Value) (cd:Value) (c T:Addr):Prop where
  code:cd = .ref c
  hd:∀ h:Heap,K.In h → PySem.W.CodeHd h c T
  bm:∃ bm o,mg "__builtins__" = some (.ref bm) ∧ bm ≠ builtinsNs ∧ bm ≠ mainGlobals ∧ K.lookup bm = some o ∧ o.cls = .type "module" ∧ o.dict = some builtinsNs ∧ o.data = .plain
def tLam (env:Env) (mg:Str → Option Value) (T:Addr) (params:Arguments) (body:Expr) (scope:Scope) (pos:Pos):TE:=fun σ H Q=>TabOk H T pos (env.qual ++ "<lambda>") ∧
  ∀ cl c ctv f H',ClOk env scope cl → SameT T H H' → H' T = some (.tbl #[rawInt pos.line,rawInt pos.col,.ref c]) → H' c = some (cdo (env.qual ++ "<lambda>") c) → H f = none → H' f = some (lmo (PySem.W.kla_fn "<lambda>" (env.qual ++ "<lambda>") params body scope cl ((mg "__name__").getD .none) (.ref c) ctv) f) → Q (.ref f) H'
section
variable {X:Cx} {scope:Scope} {N:List Str} {cp:List (Option Nat)} {params:Arguments} {body:Expr} {pos:Pos} {c T:Addr}
theorem pe_lam (L:LamOk X.K X.mg X.env.code c T) (S:CompSc X.env.scope scope X.N N cp) (hdef:defaultsOf params X.env = ([],[])):PE X (.Lambda params body scope pos) (tLam X.env X.mg T params body scope pos):=by
  intro pins s σ H Q I h
  obtain ⟨ht,h⟩:=h
  obtain ⟨cl,CL⟩:=I.clOk S
  have hgl:s.heap.Ns mainGlobals X.mg:=I.mod.glob.keeps I.bk
  have C:=L.hd _ I.kIn
  obtain ⟨bm,ob,b1,b2,b3,b4,b5,b6,b7⟩:=L.bm
  have hob:=I.kIn _ _ b4
  have tabAt:∀ {ps:Array Value},H T = some (.tbl ps) → s.heap.get? T = some (PySem.W.tabObj ps):=fun e=>I.hok T _ e
  have neT:∀ {b:Addr} {u:HO} {ps:Array Value},H T = some (.tbl ps) → H b = none → b ≠ T:=fun {b u ps} e n z=>by rw [z,e] at n; cases n
  have hBT:∀ {ps:Array Value},H T = some (.tbl ps) → bm ≠ T:=fun {ps} e z=>by
    have q:=tabAt e
    rw [← z,hob] at q
    cases q
    cases b5
  refine PySem.W.kla_eval hdef ?_
  rcases ht with e | ⟨c',e,ec⟩
  · have hT:=tabAt e
    have hgP:mainGlobals ≠ T:=fun z=>by
      obtain ⟨o,es,ep,q,d,_⟩:=hgl
      rw [z,hT] at q
      cases q
      cases d
    refine PySem.W.kla_makeFunction (mg:=X.mg) CL.clos I.ok.glob hgl L.code C hT trivial rfl hgP ⟨bm,ob,b1,b2,b3,hBT e,hob,b5,b6,b7⟩ fun c' ctv h' tk hx hge hlt hrec htb=>?_
    obtain ⟨c2,oc,vs,t,ec,hoc,hdc,hv⟩:=hrec
    cases ec
    have hTs:T < s.heap.objs.size:=Heap.lt_size hT
    have nTc:T ≠ c':=Nat.ne_of_lt (Nat.lt_of_lt_of_le hTs hge)
    have nTf:T ≠ h'.objs.size:=Nat.ne_of_lt (Nat.lt_trans (Nat.lt_of_lt_of_le hTs hge) hlt)
    have ncf:c' ≠ h'.objs.size:=Nat.ne_of_lt hlt
    have hcn:H c' = none:=I.hok.fresh hge
    have hfn:H h'.objs.size = none:=I.hok.fresh (Nat.le_of_lt (Nat.lt_of_le_of_lt hge hlt))
    generalize hfd:PySem.W.kla_fn "<lambda>" (X.env.qual ++ "<lambda>") params body scope cl ((X.mg "__name__").getD .none) (.ref c') ctv = fd at *
    obtain ⟨H',hH'⟩:∃ H':Hp,H' = upd (upd (upd H T (.tbl #[rawInt pos.line,rawInt pos.col,.ref c'])) c' (cdo (X.env.qual ++ "<lambda>") c')) h'.objs.size (lmo fd h'.objs.size):=⟨_,rfl⟩
    have hHT:H' T = some (.tbl #[rawInt pos.line,rawInt pos.col,.ref c']):=by rw [hH',upd_ne nTf,upd_ne nTc,upd_same]
    have hHc:H' c' = some (cdo (X.env.qual ++ "<lambda>") c'):=by rw [hH',upd_ne ncf,upd_same]
    have hHf:H' h'.objs.size = some (lmo fd h'.objs.size):=by rw [hH',upd_same]
    have hHo:∀ b,b ≠ T → b ≠ c' → b ≠ h'.objs.size → H' b = H b:=fun b n1 n2 n3=>by rw [hH',upd_ne n3,upd_ne n2,upd_ne n1]
    have old:∀ b u,H b = some u → b ≠ c' ∧ b ≠ h'.objs.size:=fun b u q=>⟨ne_of_none q hcn,ne_of_none q hfn⟩
    have keep:∀ b o,b ≠ T → s.heap.get? b = some o → (h'.push { cls:=.type "function", data:=.func fd }).get? b = some o:=fun b o n q=>Heap.get?_push_of_some _ (hx b o n q)
    have sT:SameT T H H':=fun b o n q=>by rw [hHo b n (old b o q).1 (old b o q).2]; exact q
    have hok:HOk X.prog X.w H' (h'.push { cls:=.type "function", data:=.func fd }):=fun b u q=>by
      by_cases n1:b = T
      · rw [n1,hHT] at q
        cases q
        rw [n1]
        exact Heap.get?_push_of_some _ htb
      by_cases n2:b = c'
      · rw [n2,hHc] at q
        cases q
        rw [n2]
        exact ⟨⟨oc,vs,t,Heap.get?_push_of_some _ hoc,hdc,hv⟩,⟨oc,Heap.get?_push_of_some _ hoc⟩,fun h1 h2 ⟨o,us,t',e,r⟩ k=>⟨o,us,t',k o e,r⟩⟩
      by_cases n3:b = h'.objs.size
      · rw [n3,hHf] at q
        cases q
        rw [n3]
        exact ⟨Heap.get?_push_size _ rfl,⟨_,Heap.get?_push_size _ rfl⟩,fun h1 h2 e k=>k _ e⟩
      rw [hHo b n1 n2 n3] at q
      refine (I.hok b u q).stay (fun d v hd r=>keep d v ?_ r) (fun d r=>?_) fun d xs r=>?_
      · rintro rfl
        rcases hd with z | z
        · exact n1 z.symm
        · rw [e] at z; cases z
      · rw [hHo d (fun z=>by rw [z,e] at r; cases r) (old d _ r).1 (old d _ r).2]; exact r
      · rw [hHo d (fun z=>by rw [z,e] at r; cases r) (old d _ r).1 (old d _ r).2]; exact r
    have nT:∀ b,H b = none → b ≠ T:=fun b n z=>by rw [z,e] at n; cases n
    have lt:∀ b o,s.heap.get? b = some o → b ≠ c' ∧ b ≠ h'.objs.size:=fun b o q=>⟨Nat.ne_of_lt (Nat.lt_of_lt_of_le (Heap.lt_size q) hge),Nat.ne_of_lt (Nat.lt_of_lt_of_le (Heap.lt_size q) (Nat.le_of_lt (Nat.lt_of_le_of_lt hge hlt)))⟩
    have I2:Inv X pins σ H' { s with heap:=h'.push { cls:=.type "function", data:=.func fd },toks:=tk }:=by
      refine I.un (t':=tk) ⟨fun b o q n _ _=>keep b o (nT b n) q,fun b o q n _ _=>⟨o.slots,keep b o (nT b n) q⟩,fun b o q n _=>?_,fun b o q _=>?_,fun b xs q=>sT b _ (fun z=>by rw [z,e] at q; cases q) q,fun b o u q=>sT b _ (fun z=>by rw [z,e] at q; cases q) q,fun b ps q=>?_⟩ hok
      · rw [hHo b (nT b n) (lt b o q).1 (lt b o q).2]; exact n
      · by_cases z:b = T
        · exact ⟨_,by rw [z]; exact Heap.get?_push_of_some _ htb⟩
        · exact ⟨o,keep b o z q⟩
      · by_cases z:b = T
        · rw [z,e] at q
          cases q
          exact ⟨#[rawInt pos.line,rawInt pos.col,.ref c'],by rw [z,hHT]; rfl⟩
        · exact ⟨#[],by rw [sT b _ z q]; simp⟩
    subst hfd
    exact ⟨.ref _,H',I2,rfl,h cl c' ctv _ H' CL sT hHT hHc hfn hHf⟩
  · have hT:=tabAt e
    have hca:codeAmong pos (#[rawInt pos.line,rawInt pos.col,Value.ref c']:Array Value).toList = some (.ref c'):=by
      show codeAmong pos [rawInt pos.line,rawInt pos.col,.ref c'] = _
      unfold rawInt codeAmong
      simp
    refine PySem.W.kla_makeFunctionHit (mg:=X.mg) CL.clos I.ok.glob hgl L.code C hT (by unfold rawInt; trivial) hca ⟨bm,ob,b1,b2,b3,hBT e,hob,b5,b6,b7⟩ fun ctv h' tk hk hsz=>?_
    have hfn:H h'.objs.size = none:=I.hok.fresh hsz
    have I2:=I.laid (t':=tk) (a:=h'.objs.size) (o:=lmo (PySem.W.kla_fn "<lambda>" (X.env.qual ++ "<lambda>") params body scope cl ((X.mg "__name__").getD .none) (.ref c') ctv) h'.objs.size) (h':=h'.push { cls:=.type "function", data:=.func (PySem.W.kla_fn "<lambda>" (X.env.qual ++ "<lambda>") params body scope cl ((X.mg "__name__").getD .none) (.ref c') ctv) })
      (fun b u q=>Heap.get?_push_of_some _ (hk b u q)) hsz ⟨Heap.get?_push_size _ rfl,⟨_,Heap.get?_push_size _ rfl⟩,fun h1 h2 e k=>k _ e⟩
    have sN:=same_new hfn (lmo (PySem.W.kla_fn "<lambda>" (X.env.qual ++ "<lambda>") params body scope cl ((X.mg "__name__").getD .none) (.ref c') ctv) h'.objs.size)
    exact ⟨.ref _,_,I2,rfl,h cl c' ctv _ _ CL sN.sameT (sN _ _ e) (sN _ _ ec) hfn upd_same⟩
end
end L2
set_option Elab.async false
set_option linter.all false
set_option maxRecDepth 100000
namespace L2
open PySem PySem.Spec PyProof.Rows
abbrev envL (sc:Scope) (qual:Str) (f:Addr) (cd:Value) (cl:List (Str × Addr)) (L:Addr):Env:=newEnv sc L mainGlobals cl (qual ++ ".<locals>.") (some f) cd none builtinsNs
def cxL (X:Cx) (A:Around) (sc:Scope) (N:List Str) (qual:Str) (f:Addr) (cd:Value) (cl:List (Str × Addr)) (s:Shared) (H:Hp):Cx where
  prog:=X.prog
  w:=X.w
  K:=X.K
  mg:=X.mg
  base:=X.base
  A:=A.deeper (envL sc qual f cd cl s.heap.objs.size)
  N:=N
  s₀:=s
  H₀:=H
  env:=envL sc qual f cd cl s.heap.objs.size
  outer:=X.stack
  stack:=envL sc qual f cd cl s.heap.objs.size :: X.stack
  ex:=[]
  calm:=true
  fn:=fun _=>false
  pn:=[]
  xe:=fun _ _=>False
section
variable {X:Cx} {pins:List (Addr × Obj)} {σ:St} {H:Hp} {s:Shared} {sc:Scope} {N:List Str} {cp:List (Option Nat)} {A':Around} {f c:Addr} {cl:List (Str × Addr)} {nm qual x:Str} {params:Arguments} {body:Expr} {pm ctv u:Value} {v:V}
theorem inv_lam (I:Inv X pins σ H s) (S:CompSc X.env.scope sc X.N N cp) (CL:ClOk X.env sc cl) (hA:A'.frames = some X.stack) (hh:A'.handled = none) (hN:N[0]? = some x) (hc0:cp[0]? = some none) (hx:sc.names.lookup x = some .local) (rv:RelV v u) {h₁:Heap} {tk:Nat}
    (hns:h₁.Ns s.heap.objs.size (fun y=>[(x,u)].reverse.lookup y)) (hk:∀ b o,s.heap.get? b = some o → h₁.get? b = some o) :
    Inv (cxL X A' sc N qual f (.ref c) cl s H) [] ((captS cp σ).set 0 (some v)) H { s with heap:=h₁,toks:=tk }:=by
  have noA:∀ b:Addr,b ∉ ([]:List Addr):=fun b z=>nomatch z
  have cellK:∀ d w',s.heap.IsCell d w' → h₁.IsCell d w':=fun d w' ⟨o,e,q⟩=>⟨o,hk d o e,q⟩
  refine ⟨⟨I.ok.mod,S.kind,rfl,rfl,Nat.le_refl _,fun y z d h1 h2=>?_,fun y hy=>?_,fun y d hf _=>(Bool.false_ne_true hf).elim,fun _=>hh,Around.frames_deeper hA,.inr ⟨rfl,rfl⟩,fun b z=>absurd z (noA b),I.bs,Nat.le_trans I.ok.bsz I.sz,fun b _ _=>noA b,fun b z=>absurd z (noA b),I.stack,I.stkFree⟩,
    rfl,I.bare,Un.kept hk,⟨_,hns,fun i y v' h1 h2 h3=>?_⟩,fun y d h=>?_,I.hok.fresh (Nat.le_refl _),fun y d h=>I.freeC y d (CL.sub y d h),(fun p hp=>nomatch hp),I.hok.kept hk,?_⟩
  · exact I.ok.inj y z d (CL.sub y d h1) (CL.sub z d h2)
  · have hy:sc.names.lookup y = some .cell ∨ sc.names.lookup y = some .free:=hy
    rcases hy with hy | hy
    · exact absurd rfl (S.nocell _ (PySem.mem_of_lookup hy))
    · exact CL.has _ (PySem.mem_of_lookup hy) rfl
  · by_cases hi:i = 0
    · subst hi
      have hy:y = x:=by
        have h1:N[0]? = some y:=h1
        rw [hN] at h1
        exact (Option.some.inj h1).symm
      subst hy
      have hl:0 < (captS cp σ).length:=by
        unfold captS
        rw [List.length_map]
        exact (List.getElem?_eq_some_iff.mp hc0).1
      rw [List.getElem?_set_self hl] at h2
      cases h2
      exact ⟨u,rv,.inl ⟨hx,by simp⟩⟩
    · rw [List.getElem?_set_ne (Ne.symm hi)] at h2
      obtain ⟨j,e1,e2⟩:=captS_get h2
      obtain ⟨e3,e4⟩:=S.capt h1 e1
      obtain ⟨m,hn,hl⟩:=I.loc
      have hfr:=S.free _ (PySem.mem_of_lookup e4) rfl
      obtain ⟨u',ru,lk⟩:=hl j y v' e3 e2 (.inr hfr)
      refine ⟨u',ru,?_⟩
      rcases lk with ⟨k1,_⟩ | ⟨_,d,e5,e6⟩
      · have k1:X.env.scope.names.lookup y = some .local:=k1
        rcases hfr with q | q <;> (rw [show X.env.scope.names.lookup y = _ from q] at k1; cases k1)
      · obtain ⟨d',e7⟩:=CL.has _ (PySem.mem_of_lookup e4) rfl
        have e8:=CL.sub y d' e7
        rw [e5] at e8
        cases e8
        exact .inr ⟨.inr e4,d,e7,cellK d _ e6⟩
  · obtain ⟨w',z⟩:=I.cell y d (CL.sub y d h)
    exact ⟨w',cellK d w' z⟩
  · show (List.set (captS cp σ) 0 (some v)).length = N.length
    rw [List.length_set]
    unfold captS
    rw [List.length_map,S.len]
theorem lam_run (I:Inv X pins σ H s) (S:CompSc X.env.scope sc X.N N cp) (CL:ClOk X.env sc cl) (hA:A'.frames = some X.stack) (hh:A'.handled = none) (hroom:A'.depth < recursionLimit) (hN:N[0]? = some x) (hc0:cp[0]? = some none) (hx:sc.names.lookup x = some .local)
    (hf:H f = some (lmo (PySem.W.kla_fn nm qual params body sc cl pm (.ref c) ctv) f)) (hcd:H c = some (cdo qual c)) (hco:sc.isCoroutine = false) (hgen:sc.isGenerator = false)
    (hbind:bindArgs (PySem.W.kla_fn nm qual params body sc cl pm (.ref c) ctv) ⟨[u],[]⟩ = pure [(x,u)]) {te:TE} (he:∀ A s' H',PE (cxL X A sc N qual f (.ref c) cl s' H') body te) (rv:RelV v u) {Q:VK} (h:te ((captS cp σ).set 0 (some v)) H Q) :
    wpAny (model X.prog X.w) A' (call (.ref f) [u]) (fun u' s'=>∃ v' H',Inv X pins σ H' s' ∧ Un (frs X.stack) [] H H' s.heap s'.heap ∧ RelV v' u' ∧ Q v' H') (fun _ _=>False) s:=by
  obtain ⟨hfo,_⟩:=(show ObjOk X.prog X.w H s.heap f (lmo (PySem.W.kla_fn nm qual params body sc cl pm (.ref c) ctv) f) from I.hok f _ hf)
  obtain ⟨⟨oc,vs,t,h1,h2,h3⟩,_⟩:=(show ObjOk X.prog X.w H s.heap c (cdo qual c) from I.hok c _ hcd)
  refine wpAny_call (PySem.W.kla_callFunE hroom hfo rfl hco hgen rfl ⟨c,oc,vs,t,rfl,h1,h2,h3⟩ ?_)
  rw [hbind]
  refine wpAny_pure (wpAny_newFunctionEnv (fun y hy=>S.nocell y hy) (fun y hy=>?_) (fun h₁ hns hsb=>?_) S.kind)
  · rw [List.mem_singleton.mp hy]
    exact hx
  have hk:∀ b o,s.heap.get? b = some o → h₁.get? b = some o:=fun b o e=>hsb.extBut b o (Nat.ne_of_lt (Heap.lt_size e)) (Heap.get?_push_of_some _ e)
  refine ⟨I.nolimit.keeps hk,PySem.W.kla_codeExpr ?_⟩
  have IL:=inv_lam (A':=A') (qual:=qual) (f:=f) (c:=c) (tk:=s.toks + [(x,u)].length) I S CL hA hh hN hc0 hx rv hns hk
  refine wpAny_mono (he A' s H [] _ _ H Q IL h) (fun u' s' ⟨v',H',J,rv',q⟩=>?_) fun _ _ z=>z.elim
  exact ⟨v',H',I.call' (ch:=[]) J.os J.base J.hok J.bare (fun b z=>nomatch z),J.base,rv',q⟩
end
theorem FpOk.stack {X:Cx} {pins:List (Addr × Obj)} {σ:St} {H:Hp} {s:Shared} {b:Addr} (I:Inv X pins σ H s) (f:FpOk X pins H b):b ∉ frs X.stack:=fun z=>by
  obtain ⟨_,f1,f2,_⟩:=f
  rcases List.mem_cons.mp (I.stkSub b z) with q | q
  · exact f1 q
  · exact f2 q
section
variable {X:Cx} {pins:List (Addr × Obj)} {σ:St} {H:Hp} {s:Shared}
theorem Inv.sorted (I:Inv X pins σ H s) {a kS:Addr} (fa:FpOk X pins H a) (fk:FpOk X pins H kS) {h':Heap} {tk:Nat} {m:Str → Option Value} (hm:s.heap.Ns X.env.locals m) (F:Fr X.base X.env.locals h' m)
    (k:∀ b o,b ≠ X.env.locals → b ≠ kS → b ≠ a → s.heap.get? b = some o → h'.get? b = some o):Inv X pins σ H { s with heap:=h',toks:=tk }:=by
  have nt:∀ b u,H b = some u → b ≠ X.env.locals ∧ b ≠ kS ∧ b ≠ a:=fun b u e=>⟨ne_of_none e I.free,ne_of_none e fk.1,ne_of_none e fa.1⟩
  have nch:∀ b,b ∉ [kS,a] → b ≠ kS ∧ b ≠ a:=fun b z=>by simpa using z
  refine I.step (g':=s.gens) (t':=tk) (d':=s.drawn) (ch:=[kS,a]) (fun b hb=>?_) (fun b o hL _ hc e _=>k b o hL (nch b hc).1 (nch b hc).2 e) (fun b o hL _ hc e _=>⟨o.slots,k b o hL (nch b hc).1 (nch b hc).2 e⟩) (fun _ _ _ _ n=>n)
    (fun b o hc e=>?_) (fun _ _ e=>e) (fun _ _ _ e=>e) (fun b ps e=>⟨#[],by rw [e]; simp⟩) (fun m' hm'=>?_) (fun b u e=>?_) I.bare
  · have hb':b = kS ∨ b = a:=by simpa using hb
    rcases hb' with rfl | rfl
    · obtain ⟨_,f1,_,f3,f4,f5⟩:=fk
      exact ⟨f3,f1,f4,f5⟩
    · obtain ⟨_,f1,_,f3,f4,f5⟩:=fa
      exact ⟨f3,f1,f4,f5⟩
  · by_cases hL:b = X.env.locals
    · obtain ⟨o',_,_,e',_⟩:=F.ns
      exact ⟨o',by rw [hL]; exact e'⟩
    · exact ⟨o,k b o hL (nch b hc).1 (nch b hc).2 e⟩
  · have:m' = m:=by rw [hm'.eq_nsMap,hm.eq_nsMap]
    rw [this]
    exact F.ns
  · exact (I.hok b u e).stay (fun c v hc q=>by
      have hc':∃ u,H c = some u:=by
        rcases hc with z | z
        · exact ⟨u,by rw [z]; exact e⟩
        · exact ⟨_,z⟩
      obtain ⟨u',hu⟩:=hc'
      obtain ⟨n1,n2,n3⟩:=nt c u' hu
      exact k c v n1 n2 n3 q) (fun _ q=>q) fun _ _ q=>q
variable {A':Around} {f c:Addr} {a:Addr} {vs:List Value} {kz:List Int} {E:Value → Shared → Prop} {Pq:PySem.Fin → Shared → Prop}
theorem sort_rest {kS:Addr} {e1:Nat} (I:Inv X pins σ H s) (fa:FpOk X pins H a) (fk:FpOk X pins H kS) (hka:kS ≠ a) (hok0:s.heap.get? kS = some (seqObj "list" #[] 0)) (hoa:s.heap.get? a = some (seqObj "list" #[] e1)) (hlen:kz.length = vs.length) (h64:vs.length < 64)
    (turn:∀ (i:Nat) (v:Value) (k:Int),vs[i]? = some v → kz[i]? = some k → ∀ s',Inv X pins σ H s' → wpAny (model X.prog X.w) A' (call (.ref f) [v]) (fun u' s''=>∃ t,u' = .int k t ∧ Inv X pins σ H s'' ∧ Un (frs X.stack) [] H H s'.heap s''.heap) (fun _ _=>False) s')
    (h:∀ s' out c',Inv X pins σ H s' → s'.heap.get? a = some (seqObj "list" out c') → KskOut false kz vs out.toList → Pq (.done (.ret .none)) s') :
    wpAny (model X.prog X.w) A' (ksk_rest a (.ref f) false vs.toArray e1 (.ref kS)) Pq E s:=by
  unfold ksk_rest
  refine wpAny_bind (wpAny_rule ?_)
  rw [List.forIn_toArray]
  refine wpAny_bind (ksk_fold (fun i s'=>Inv X pins σ H s' ∧ s'.heap.get? a = some (seqObj "list" #[] e1) ∧ ∃ kA e,s'.heap.get? kS = some (seqObj "list" kA e) ∧ IntsAre kA.toList (kz.take i)) vs 0 s ⟨I,hoa,#[],0,hok0,IntsAre.nil⟩ ?_ ?_)
  · rintro j x s1 hx ⟨I1,ha1,kA,e,hk1,hi⟩
    simp only [Nat.zero_add] at hi ⊢
    have hj:j < vs.length:=(List.getElem?_eq_some_iff.mp hx).1
    obtain ⟨k,hkj⟩:∃ k,kz[j]? = some k:=⟨_,List.getElem?_eq_getElem (by omega)⟩
    have hz:kA.size ≤ vs.length:=by
      have h1:=hi.length
      rw [Array.length_toList,List.length_take] at h1
      omega
    refine wpAny_bind (wpAny_attempt (wpAny_mono (turn j x k hx hkj s1 I1) (fun u' s2 hq=>?_) fun _ _ z=>z.elim))
    obtain ⟨t,rfl,I2,un⟩:=hq
    have hk2:=un.keep _ _ hk1 fk.1 (fk.stack I1) (by simp)
    have ha2:=un.keep _ _ ha1 fa.1 (fa.stack I1) (by simp)
    have s3:=Heap.SameBut.update s2.heap kS (Obj.mapSeq (·.push (.int k t)))
    obtain ⟨c2,hc2⟩:∃ c2,(s2.heap.update kS (Obj.mapSeq (·.push (.int k t)))).get? kS = some (seqObj "list" (kA.push (.int k t)) c2):=⟨_,get?_update_seq hk2 (·.push (.int k t))⟩
    have ek:kz.take (j + 1) = kz.take j ++ [k]:=by rw [List.take_add_one,hkj]; simp
    have ea:(kA.push (Value.int k t)).toList = kA.toList ++ [Value.int k t]:=by simp
    refine wpAny_bind (listUpdate_at hk2 rfl ?_ (by rw [sizeLine_eq]; omega) (Nat.le_trans (Nat.le_of_eq (Array.size_push ..)) (by rw [sizeLine_eq]; omega)))
    exact wpAny_pure ⟨rfl,I2.letGo fk s3,(s3.2 a hka.symm).trans ha2,kA.push (.int k t),c2,hc2,by rw [ea,ek]; exact ksk_snoc hi⟩
  · rintro s1 ⟨I1,ha1,kA,e,hk1,hi⟩
    have hk':IntsAre kA.toList kz:=by
      have e3:kz.take (0 + vs.length) = kz:=List.take_of_length_le (by omega)
      rw [e3] at hi
      exact hi
    refine wpAny_bind (listItems_at hk1 rfl ?_)
    obtain ⟨m,hn,_⟩:=id I1.loc
    have F:Fr X.base X.env.locals s1.heap m:=⟨hn,I1.bk,Nat.le_trans I1.ok.bsz I1.ok.above⟩
    have nb:∀ {b:Addr},FpOk X pins H b → X.base.get? b = none:=fun {b} fb=>by
      cases q:X.base.get? b with
      | none=>rfl
      | some o =>
        obtain ⟨_,_,_,f3,_⟩:=fb
        rcases f3 with z | z
        · exact absurd z (I1.ok.noex b o q)
        · exact absurd (Heap.lt_size (I1.ok.bs b o q).1) (Nat.not_lt.mpr z)
    have N:News X.base X.env.locals s1.heap (((allNews X.base s1.heap X.env.locals).filter fun p=>decide (p.1 ≠ kS ∧ p.1 ≠ a)) ++ [(kS,seqObj "list" kA e),(a,seqObj "list" #[] e1)]):=fun p hp=>by
      rcases List.mem_append.mp hp with hp | hp
      · exact news_all p (List.mem_filter.mp hp).1
      · simp only [List.mem_cons,List.not_mem_nil,or_false] at hp
        rcases hp with rfl | rfl
        · exact ⟨hk1,fk.2.1,nb fk⟩
        · exact ⟨ha1,fa.2.1,nb fa⟩
    refine ksk_end_ F N hka (fun p hp=>(of_decide_eq_true (List.mem_filter.mp hp).2).1) (fun p hp=>(of_decide_eq_true (List.mem_filter.mp hp).2).2) hk' hlen h64 fun h' tk out c' F' N' ko=>?_
    refine h _ out c' (I1.sorted fa fk hn F' fun b o n1 n2 n3 e=>?_) (N' _ (.head _)).1 ko
    cases q:X.base.get? b with
    | some o' =>
      have:=I1.bk b o' q
      rw [e] at this
      cases this
      exact F'.keep b _ q
    | none=>exact (N' (b,o) (.tail _ (List.mem_filter.mpr ⟨mem_allNews n1 q e,decide_eq_true ⟨n2,n3⟩⟩))).1
theorem sort_tree {n0:Nat} (I:Inv X pins σ H s) (fa:FpOk X pins H a) (hoa:s.heap.get? a = some (seqObj "list" vs.toArray n0)) (hlen:kz.length = vs.length) (h64:vs.length < 64)
    (turn:∀ (i:Nat) (v:Value) (k:Int),vs[i]? = some v → kz[i]? = some k → ∀ s',Inv X pins σ H s' → wpAny (model X.prog X.w) A' (call (.ref f) [v]) (fun u' s''=>∃ t,u' = .int k t ∧ Inv X pins σ H s'' ∧ Un (frs X.stack) [] H H s'.heap s''.heap) (fun _ _=>False) s')
    (h:∀ s' out c',Inv X pins σ H s' → s'.heap.get? a = some (seqObj "list" out c') → KskOut false kz vs out.toList → Pq (.done (.ret .none)) s') :
    wpAny (model X.prog X.w) A' (ksk_tree a (.ref f) false) Pq E s:=by
  have ha:a < s.heap.objs.size:=Heap.lt_size hoa
  have s1:=Heap.SameBut.update s.heap a (Obj.mapSeq fun _=>(#[]:Array Value))
  obtain ⟨e1,ho1⟩:∃ e1,(s.heap.update a (Obj.mapSeq fun _=>(#[]:Array Value))).get? a = some (seqObj "list" #[] e1):=⟨_,get?_update_seq hoa fun _=>#[]⟩
  have I1:Inv X pins σ H { s with heap:=s.heap.update a (Obj.mapSeq fun _=>(#[]:Array Value)) }:=I.letGo fa s1
  unfold ksk_tree
  refine wpAny_bind (listItems_at hoa rfl ?_)
  refine wpAny_bind (listUpdate_at hoa rfl ?_ (by rw [List.size_toArray,sizeLine_eq]; omega) (Nat.zero_le _))
  refine wpAny_bind (seqEpoch_at ho1 rfl ?_)
  refine wpAny_bind (wpAny_newTuple ?_ (by show vs.length ≤ _; rw [sizeLine_eq]; omega))
  refine wpAny_bind (wpAny_newList ?_ (Nat.zero_le _))
  refine wpAny_holding ?_
  generalize hs1:s.heap.update a (Obj.mapSeq fun _=>(#[]:Array Value)) = g at *
  have I2:Inv X pins σ H { s with heap:=(g.push (seqObj "tuple" vs.toArray 0)).push (seqObj "list" #[] 0) }:=(I1.kept (t':=s.toks) fun b o e=>Heap.get?_push_of_some _ (Heap.get?_push_of_some _ e))
  have hsz:(g.push (seqObj "tuple" vs.toArray 0)).objs.size = g.objs.size + 1:=size_push' _ _
  have fk:FpOk X pins H (g.push (seqObj "tuple" vs.toArray 0)).objs.size:=I1.fpOk (by rw [hsz]; exact Nat.le_succ _) (I1.hok.fresh (by rw [hsz]; exact Nat.le_succ _))
  have hag:a < g.objs.size:=Heap.lt_size ho1
  exact sort_rest I2 fa fk (by rw [hsz]; exact Nat.ne_of_gt (Nat.lt_succ_of_lt hag)) (Heap.get?_push_size _ rfl) (Heap.get?_push_of_some _ (Heap.get?_push_of_some _ ho1)) hlen h64 turn h
end
end L2
set_option Elab.async false
set_option linter.all false
set_option maxRecDepth 100000
namespace L2
open PySem PySem.Spec PyProof.Rows
theorem bb_sorted:bootBuiltins "sorted" = some (.builtin "sorted"):=by kernel_rfl
theorem collect_range {prog:Program} {w:World} {A:Around} {E:Value → Shared → Prop} {s:Shared} {Q:List Value → Shared → Prop} {r:Addr} {t u v:Tok} {n:Nat} (hh:A.handled = none) (hr:IsRange s.heap r 0 (n:Int) 1 t u v) (hn:n ≤ 1000)
    (hQ:∀ h' tk (acc:Array Value),(∀ b o,s.heap.get? b = some o → h'.get? b = some o) → ItemsOf (fun i v=>∃ t,v = .int (0 + i * 1) t) acc n → Q acc.toList { s with heap:=h',toks:=tk }):wpAny (model prog w) A (collect (.ref r)) Q E s:=by
  unfold collect
  refine wpAny_bind (wpAny_runValue (codeAny_builtin F.entry_proto_collect ?_))
  rw [Around.under_plainId F.plain_proto_collect _]
  show wpAny _ A.in1 (newList [] >>= fun l=>again (.builtin "list.__iadd__" ⟨[l,.ref r],[]⟩)) _ _ s
  refine wpAny_bind (wpAny_newObj_type ?_)
  refine wpAny_pure ⟨plainId_quiet F.plain_list_iadd _,codeAny_builtin F.entry_list_iadd ?_⟩
  rw [Around.under_plainId F.plain_list_iadd _]
  show wpAny _ A.in1 (Builtin.List.listExtendWith (.ref s.heap.objs.size) (.ref r) (.ref s.heap.objs.size)) _ _ _
  refine wpAny_extend_range (R:=fun r s'=>match r with
    | .ok (.ret v)=>wpAny (model prog w) A (match v with
      | .ref a=>(do
        match (← load a).data with
        | .seq xs _=>pure xs.toList
        | _=>unsupported "internal:collect")
      | _=>unsupported "internal:collect") Q E s'
    | .ok _=>False
    | .error e=>E e s') (A:=A) (s:={ s with heap:=s.heap.push { cls:=.type "list", data:=.seq ([]:List Value).toArray } }) (n:=n) hh (show IsRange _ _ _ _ _ _ _ _ from Heap.get?_push_of_some _ hr) (small_one (by decide) (by decide) (by omega) (by omega)) (by rw [rangeSize_one]; split <;> omega) (by omega) s.heap.objs.size (.ref s.heap.objs.size) 0 (Heap.get?_push_size _ rfl) fun h' tk acc c' kp e hacc=>?_
  show wpAny _ A (load s.heap.objs.size >>= _) _ _ _
  refine wpAny_bind (wpAny_load e ?_)
  exact wpAny_pure (hQ h' tk acc (fun b o q=>kp b o (Nat.ne_of_lt (Heap.lt_size q)) (Heap.get?_push_of_some _ q)) hacc)
theorem key_out {n:Nat} {vs out:List Value} {g:Nat → Int} (hv:Vals ((List.range n).map fun (i:Nat)=>V.int i) vs) (h:KskOut false ((List.range n).map g) vs out) :
    ∃ os:List Nat,os.Perm (List.range n) ∧ os.Pairwise (fun i j=>g i ≤ g j) ∧ Vals (os.map fun (i:Nat)=>V.int i) out:=by
  obtain ⟨ps,hp,rfl,hs⟩:=h
  have hz:∀ p ∈ ps,∃ (i:Nat) (t:Tok),i < n ∧ p = (g i,.int i t):=fun p hm=>by
    have hm2:=hp.mem_iff.mp hm
    obtain ⟨i,hi⟩:=List.mem_iff_getElem?.mp hm2
    rw [List.getElem?_zip_eq_some] at hi
    obtain ⟨h1,h2⟩:=hi
    rw [List.getElem?_map] at h1
    have hin:i < n:=by
      apply Classical.byContradiction
      intro hc
      rw [List.getElem?_eq_none (by rw [List.length_range]; omega)] at h1
      cases h1
    rw [List.getElem?_range hin] at h1
    obtain ⟨v',hv',rb⟩:=hv.get (show ((List.range n).map fun (i:Nat)=>V.int i)[i]? = some (V.int i) by rw [List.getElem?_map,List.getElem?_range hin]; rfl)
    rw [h2] at hv'
    cases hv'
    obtain ⟨t,e⟩:=rb
    refine ⟨i,t,hin,?_⟩
    have h1:g i = p.1:=Option.some.inj h1
    rw [h1,← e]
  have ix:∀ p ∈ ps,p.1 = g (numOf p.2).toNat ∧ RelV (.int ((numOf p.2).toNat:Nat)) p.2:=fun p hm=>by
    obtain ⟨i,t,_,rfl⟩:=hz p hm
    exact ⟨rfl,t,rfl⟩
  refine ⟨ps.map fun p=>(numOf p.2).toNat,?_,?_,?_⟩
  · have e:(((List.range n).map g).zip vs).map (fun p=>(numOf p.2).toNat) = List.range n:=by
      have e2:(((List.range n).map g).zip vs).map Prod.snd = vs:=by
        rw [List.map_snd_zip]
        have:=hv.length
        rw [List.length_map] at this
        rw [List.length_map,this]
        exact Nat.le_refl _
      rw [show (fun p:Int × Value=>(numOf p.2).toNat) = (fun v=>(numOf v).toNat) ∘ Prod.snd from rfl,← List.map_map,e2]
      apply List.ext_getElem?
      intro i
      rw [List.getElem?_map]
      by_cases hi:i < n
      · obtain ⟨v',hv',rb⟩:=hv.get (show ((List.range n).map fun (i:Nat)=>V.int i)[i]? = some (V.int i) by rw [List.getElem?_map,List.getElem?_range hi]; rfl)
        rw [hv',List.getElem?_range hi]
        obtain ⟨t,rfl⟩:=rb
        rfl
      · have:=hv.length
        rw [List.length_map,List.length_range] at this
        rw [List.getElem?_eq_none (by omega),List.getElem?_eq_none (by rw [List.length_range]; omega)]
        rfl
    rw [← e]
    exact hp.map _
  · rw [List.pairwise_map]
    refine hs.imp_of_mem fun {p q} h1 h2 h=>?_
    have h:p.1 ≤ q.1:=h
    rw [(ix p h1).1,(ix q h2).1] at h
    exact h
  · rw [List.map_map]
    have:∀ l:List (Int × Value),(∀ p ∈ l,RelV (.int ((numOf p.2).toNat:Nat)) p.2) → Vals (l.map ((fun (i:Nat)=>V.int i) ∘ fun p=>(numOf p.2).toNat)) (l.map Prod.snd):=fun l=>by
      induction l with
      | nil=>exact fun _=>.nil
      | cons p l ih=>exact fun h=>.cons (h p List.mem_cons_self) (ih fun q hq=>h q (List.mem_cons_of_mem _ hq))
    exact this ps fun p hm=>(ix p hm).2
structure LamB (X:Cx) (params:Arguments) (body:Expr) (sc:Scope) (N:List Str) (cp:List (Option Nat)) (x:Str) (te:TE):Prop where
  cs:CompSc X.env.scope sc X.N N cp
  df:defaultsOf params X.env = ([],[])
  n0:N[0]? = some x
  c0:cp[0]? = some none
  lx:sc.names.lookup x = some .local
  co:sc.isCoroutine = false
  gn:sc.isGenerator = false
  bind:∀ nm qual cl pm cd ctv u,bindArgs (PySem.W.kla_fn nm qual params body sc cl pm cd ctv) ⟨[u],[]⟩ = pure [(x,u)]
  run:∀ A qual f c cl s H,PE (cxL X A sc N qual f (.ref c) cl s H) body te
def tSortK (env:Env) (T:Addr) (lpos:Pos) (cp:List (Option Nat)) (te:TE) (ta:TA):TE:=fun σ H Q=>ta σ H fun vs H1=>∃ (n:Nat) (g:Nat → Int),vs = [.int n] ∧ n < 64 ∧ TabOk H1 T lpos (env.qual ++ "<lambda>") ∧
  (∀ (i:Nat) H',i < n → SameT T H1 H' → te ((captS cp σ).set 0 (some (.int i))) H' (fun v H''=>v = .int (g i) ∧ H'' = H')) ∧
  ∀ l (os:List Nat) H2,SameT T H1 H2 → TabOk H2 T lpos (env.qual ++ "<lambda>") → H1 l = none → os.Perm (List.range n) → os.Pairwise (fun i j=>g i ≤ g j) → H2 l = some (.lst (os.map fun (i:Nat)=>V.int i)) → Q (.ref l) H2
theorem pe_sortK {X:Cx} {a:Expr} {ta:TA} {te:TE} {params:Arguments} {body:Expr} {sc:Scope} {N:List Str} {cp:List (Option Nat)} {x:Str} {c T:Addr} {p pos p2 pos2 kp lpos:Pos} (hc:X.calm = true) (hex:X.ex = []) (hrm:Room 4 X.A) (hg:Gl X "sorted") (hm:X.mg "sorted" = none) (hg2:Gl X "range") (hm2:X.mg "range" = none) (ha:PA X [a] ta)
    (L:LamOk X.K X.mg X.env.code c T) (B:LamB X params body sc N cp x te) (hs:starEach [a] X.env = [(false,eval a X.env)]:=by rfl) :
    PE X (.Call (.Name "sorted" p) [.Call (.Name "range" p2) [a] [] pos2] [⟨some "key", .Lambda params body sc lpos,kp⟩] pos) (tSortK X.env T lpos cp te ta):=by
  intro pins s σ H Q I h
  refine wpAny_Call_Name_kw (ld_blt I hg hm bb_sorted (callWith_kw (args_cons ?_)))
  refine Call_ (ld_blt I hg2 hm2 boot_range (PyProof.Rows.callWith_type1 (thn (ha pos2 pins s σ H _ I h) fun us s1 ⟨vs,H1,I1,r1,q1⟩=>?_) hs rfl))
  obtain ⟨n,g,e,hn,htab,hte,q⟩:=q1
  subst e
  obtain ⟨u,rfl,ru⟩:=vals1 r1
  obtain ⟨t,rfl⟩:=ru
  refine call_range_1 ?_
  refine args_nil ?_
  have kp1:∀ b o,s1.heap.get? b = some o → (s1.heap.push { cls:=.type "range", data:=.fields #[.int 0 s1.toks,.int n t,.int 1 (s1.toks + 1)] }).get? b = some o:=fun b o e=>Heap.get?_push_of_some _ e
  have I2:Inv X pins σ H1 { s1 with heap:=s1.heap.push { cls:=.type "range", data:=.fields #[.int 0 s1.toks,.int n t,.int 1 (s1.toks + 1)] },toks:=s1.toks + 1 + 1 }:=I1.kept kp1
  have fr:=I1.fpOk (b:=s1.heap.objs.size) (Nat.le_refl _) (I1.hok.fresh (Nat.le_refl _))
  have hRg:(s1.heap.push { cls:=.type "range", data:=.fields #[.int 0 s1.toks,.int n t,.int 1 (s1.toks + 1)] }).get? s1.heap.objs.size = some { cls:=.type "range", data:=.fields #[.int 0 s1.toks,.int n t,.int 1 (s1.toks + 1)] }:=Heap.get?_push_size _ rfl
  have I2p:Inv X (pins ++ [(s1.heap.objs.size,{ cls:=.type "range", data:=.fields #[.int 0 s1.toks,.int n t,.int 1 (s1.toks + 1)] })]) σ H1 { s1 with heap:=s1.heap.push { cls:=.type "range", data:=.fields #[.int 0 s1.toks,.int n t,.int 1 (s1.toks + 1)] },toks:=s1.toks + 1 + 1 }:=I2.pins_of fun p hp=>by
    rcases List.mem_append.mp hp with hp | hp
    · exact I2.pin p (List.mem_append_right _ hp)
    · rw [List.mem_singleton.mp hp]
      exact ⟨hRg,fr.1,fr.2.1,fr.2.2.1,fun v z=>by cases z⟩
  refine kws_cons (thn (pe_lam L B.cs B.df (body:=body) (pos:=lpos) _ _ σ H1 (fun v H'=>∃ cl c ctv f,v = .ref f ∧ ClOk X.env sc cl ∧ SameT T H1 H' ∧ H' T = some (.tbl #[rawInt lpos.line,rawInt lpos.col,.ref c]) ∧ H' c = some (cdo (X.env.qual ++ "<lambda>") c) ∧ H' f = some (lmo (PySem.W.kla_fn "<lambda>" (X.env.qual ++ "<lambda>") params body sc cl ((X.mg "__name__").getD .none) (.ref c) ctv) f)) I2p ⟨htab,fun cl c ctv f H' h1 h2 h3 h4 _ h5=>⟨cl,c,ctv,f,rfl,h1,h2,h3,h4,h5⟩⟩) fun fu s3 ⟨fv,H3,I3p,rf,q3⟩=>?_)
  obtain ⟨cl,c',ctv,f,rfl,CL,sT,hT3,hc3,hf3⟩:=q3
  cases rf
  have I3:Inv X pins σ H3 s3:=I3p.unpinned
  have hR3:s3.heap.get? s1.heap.objs.size = some { cls:=.type "range", data:=.fields #[.int 0 s1.toks,.int n t,.int 1 (s1.toks + 1)] }:=(I3p.pin _ (List.mem_append_right _ (List.mem_append_right _ (List.mem_singleton.mpr rfl)))).1
  refine kws_nil ?_
  show wpAny _ _ (call (.builtin "sorted") [.ref s1.heap.objs.size] [(Str.ofString "key", .ref f)]) _ _ _
  refine call_function_entry_kw kind_sorted plain_sorted entry_sorted (ksk_s1 _ _) ?_
  unfold Builtin.«sorted»
  refine wpAny_bind (m:=checkCount "sorted" 1 1 _) (wpAny_pure ?_)
  have hh:=I.ok.hd hc
  refine wpAny_bind (collect_range (A:=X.A.in1) hh (show IsRange _ _ _ _ _ _ _ _ from hR3) (by omega) fun h4 tk4 acc kp4 hacc=>?_)
  have I4:Inv X pins σ H3 { s3 with heap:=h4,toks:=tk4 }:=I3.kept kp4
  have hvs:=rng_items hacc
  have hlen:acc.toList.length = n:=by
    have:=hvs.length
    rw [List.length_map,List.length_range] at this
    exact this.symm
  refine wpAny_bind (wpAny_newList ?_ (by rw [hlen,sizeLine_eq]; omega))
  have I5:Inv X pins σ H3 { s3 with heap:=h4.push (seqObj "list" acc.toList.toArray 0),toks:=tk4 }:=I4.kept fun b o e=>Heap.get?_push_of_some _ e
  have fa:FpOk X pins H3 h4.objs.size:=I4.fpOk (Nat.le_refl _) (I4.hok.fresh (Nat.le_refl _))
  have hoL:(h4.push (seqObj "list" acc.toList.toArray 0)).get? h4.objs.size = some (seqObj "list" acc.toList.toArray 0):=Heap.get?_push_size _ rfl
  refine wpAny_bind (wpAny_holding (wpAny_call_entry_kw slot_list_sort ⟨_,hoL,rfl⟩ entry_list_sort ?_ (ksk_l1 _ _)))
  show wpAny (model X.prog X.w) X.A.in1.in1 (Builtin.«list.sort» ⟨[.ref h4.objs.size],[(Str.ofString "key", .ref f)]⟩) _ _ _
  rw [ksk_t1]
  refine sort_tree (kz:=(List.range n).map g) I5 fa hoL (by rw [List.length_map,List.length_range,hlen]) (by rw [hlen]; exact hn) (fun i v k hv hk s' I'=>?_) fun s' out c2 I' ho' ko=>⟨_,rfl,?_⟩
  · rw [List.getElem?_map] at hk
    have hin:i < n:=by
      have:=(List.getElem?_eq_some_iff.mp hv).1
      omega
    rw [List.getElem?_range hin] at hk
    have hk:g i = k:=Option.some.inj hk
    obtain ⟨v',hv',rb⟩:=hvs.get (show ((List.range n).map fun (i:Nat)=>V.int i)[i]? = some (V.int i) by rw [List.getElem?_map,List.getElem?_range hin]; rfl)
    rw [hv] at hv'
    cases hv'
    refine wpAny_mono (lam_run (A':=X.A.in1.in1) I' B.cs CL I.ok.frames hh (by have:=hrm.dp; show X.A.depth < _; omega) B.n0 B.c0 B.lx hf3 hc3 B.co B.gn (B.bind _ _ _ _ _ _ _) (fun A s0 H0=>B.run A _ f c' cl s0 H0) rb (Q:=fun v H''=>v = .int (g i) ∧ H'' = H3) (hte i H3 hin sT)) (fun u' s'' ⟨v2,H2,J,un,r2,e1,e2⟩=>?_) fun _ _ z=>z
    subst e1 e2
    obtain ⟨t2,rfl⟩:=r2
    exact ⟨t2,by rw [hk],J,un⟩
  · obtain ⟨os,hp,hpw,hvo⟩:=key_out hvs ko
    have hlo:os.length = n:=by rw [hp.length_eq,List.length_range]
    refine wpAny_pure ⟨_,rfl,.ref _,upd H3 h4.objs.size (.lst (os.map fun (i:Nat)=>V.int i)),?_,rfl,?_⟩
    · refine I'.takeX fa.1 ⟨Heap.get?_none_of_le ?_,fa.2.1,fa.2.2.2.2.1,fa.2.2.2.2.2⟩ ⟨by rw [List.length_map,hlo,sizeLine_eq]; omega,out.toList,c2,hvo,by rw [Array.toArray_toList]; exact ho'⟩
      exact Nat.le_trans I4.sz (Nat.le_refl _)
    · have sN:=same_new fa.1 (.lst (os.map fun (i:Nat)=>V.int i))
      have hl1:H1 h4.objs.size = none:=by
        cases z:H1 h4.objs.size with
        | none=>rfl
        | some o =>
          by_cases zt:h4.objs.size = T
          · have:=fa.1
            rw [zt,hT3] at this
            cases this
          · have:=fa.1
            rw [sT _ _ zt z] at this
            cases this
      exact q _ os _ (sT.trans sN.sameT) (.inr ⟨c',sN _ _ hT3,sN _ _ hc3⟩) hl1 hp hpw upd_same
end L2
set_option Elab.async false
set_option linter.all false
set_option maxRecDepth 100000
namespace L2
open PySem PySem.Spec PyProof.Rows
section
variable {κ:Type} [DecidableEq κ]
def valV (kvs:List (κ × V)) (k:κ):Option V:=(kvs.find? fun kv=>decide (kv.1 = k)).map (·.2)
def putK (kvs:List (κ × V)) (k:κ) (v:V):List (κ × V) :=
  if (kvs.any fun kv=>decide (kv.1 = k)) = true then kvs.map (fun kv=>if kv.1 = k then (kv.1,v) else kv) else kvs ++ [(k,v)]
theorem valV_pos {p:κ × V} {r:List (κ × V)} {k:κ} (e:p.1 = k):valV (p :: r) k = some p.2:=by simp [valV,List.find?_cons,e]
theorem valV_neg {p:κ × V} {r:List (κ × V)} {k:κ} (e:¬ p.1 = k):valV (p :: r) k = valV r k:=by simp [valV,List.find?_cons,e]
theorem valV_any (k:κ):∀ kvs:List (κ × V),(kvs.any fun kv=>decide (kv.1 = k)) = (valV kvs k).isSome
  | []=>rfl
  | p :: r=>by
    rw [List.any_cons]
    by_cases e:p.1 = k
    · simp only [valV_pos e,decide_eq_true e,Bool.true_or,Option.isSome_some]
    · rw [valV_neg e,decide_eq_false e,Bool.false_or]; exact valV_any k r
theorem length_putK (kvs:List (κ × V)) (k:κ) (v:V):(putK kvs k v).length ≤ kvs.length + 1:=by
  unfold putK
  split
  · rw [List.length_map]; omega
  · rw [List.length_append,List.length_cons,List.length_nil]; omega
theorem putK_new {kvs:List (κ × V)} {k:κ} (v:V) (h:valV kvs k = none):putK kvs k v = kvs ++ [(k,v)]:=by
  unfold putK
  rw [valV_any,h]
  exact if_neg (by decide)
theorem RelO.isSome_eq {o:Option V} {u:Option Value} (r:RelO o u):o.isSome = u.isSome:=by
  cases o with
  | none=>cases u with
    | none=>rfl
    | some _=>exact (show False from r).elim
  | some _=>cases u with
    | none=>exact (show False from r).elim
    | some _=>rfl
theorem RelO.getD {o:Option V} {u:Option Value} {d:V} {d':Value} (r:RelO o u) (rd:RelV d d'):RelV (o.getD d) (u.getD d'):=by
  cases o with
  | none=>cases u with
    | none=>exact rd
    | some _=>exact (show False from r).elim
  | some _=>cases u with
    | none=>exact (show False from r).elim
    | some _=>exact r
theorem KV.val {kvs:List (κ × V)} {vs:List (κ × Value)} (r:KV kvs vs) (k:κ):RelO (valV kvs k) (valueAt vs k):=by
  unfold KV at r
  induction r with
  | nil=>exact True.intro
  | @cons p q ps qs h t ih =>
    obtain ⟨h1,h2⟩:=h
    by_cases e:p.1 = k
    · have e':q.1 = k:=h1.symm.trans e
      have b:valueAt (q :: qs) k = some q.2:=by simp [valueAt,List.find?_cons,e']
      rw [valV_pos e,b]; exact h2
    · have e':¬ q.1 = k:=fun z=>e (h1.trans z)
      have b:valueAt (q :: qs) k = valueAt qs k:=by simp [valueAt,List.find?_cons,e']
      rw [valV_neg e,b]; exact ih
theorem KV.any {kvs:List (κ × V)} {vs:List (κ × Value)} (r:KV kvs vs) (k:κ):(kvs.any fun kv=>decide (kv.1 = k)) = vs.any fun kv=>decide (kv.1 = k):=by
  unfold KV at r
  induction r with
  | nil=>rfl
  | cons h t ih=>rw [List.any_cons,List.any_cons,ih,h.1]
theorem KV.repl {kvs:List (κ × V)} {vs:List (κ × Value)} (r:KV kvs vs) (k:κ) {y:V} {u:Value} (ry:RelV y u) :
    KV (kvs.map fun kv=>if kv.1 = k then (kv.1,y) else kv) (vs.map fun kv=>if kv.1 = k then (kv.1,u) else kv):=by
  unfold KV at r ⊢
  induction r with
  | nil=>exact .nil
  | @cons p q ps qs h t ih =>
    rw [List.map_cons,List.map_cons]
    refine .cons ?_ ih
    obtain ⟨h1,h2⟩:=h
    by_cases e:p.1 = k
    · rw [if_pos e,if_pos (h1.symm.trans e)]; exact ⟨h1,ry⟩
    · rw [if_neg e,if_neg (fun z=>e (h1.trans z))]; exact ⟨h1,h2⟩
theorem KV.put {kvs:List (κ × V)} {vs:List (κ × Value)} (r:KV kvs vs) (k:κ) {y:V} {u:Value} (ry:RelV y u):KV (putK kvs k y) (stored vs k u):=by
  unfold putK stored
  rw [r.any k]
  by_cases e:(vs.any fun kv=>decide (kv.1 = k)) = true
  · rw [if_pos e,if_pos e]; exact r.repl k ry
  · rw [if_neg e,if_neg e]; exact Paired.snoc r ⟨rfl,ry⟩
theorem KV.keys {kvs:List (κ × V)} {vs:List (κ × Value)} (r:KV kvs vs):kvs.map (·.1) = vs.map (·.1):=by
  unfold KV at r
  induction r with
  | nil=>rfl
  | cons h t ih=>rw [List.map_cons,List.map_cons,ih,h.1]
theorem KV.length {kvs:List (κ × V)} {vs:List (κ × Value)} (r:KV kvs vs):kvs.length = vs.length:=Paired.length r
end
theorem kV_is {P:Program} {w:World} {k:Key} {u:Value} (r:RelV (kV k) u):(mixKind P w).is k u = true:=by
  cases k with
  | inl i=>obtain ⟨t,e⟩:=(show ∃ t,u = Value.int i t from r); subst e; exact mixKind_int P w i t
  | inr x=>obtain ⟨t,e⟩:=(show ∃ t,u = Value.str x t from r); subst e; exact mixKind_str P w x t
theorem items_are {P:Program} {w:World}:∀ {ks:List Key} {us:List Value},Vals (ks.map kV) us → ItemsAre (mixKind P w) ks us
  | [],_,r=>by rw [List.map_nil] at r; cases r; exact .nil
  | k :: ks,_,r=>by
    rw [List.map_cons] at r
    cases r with
    | cons h t=>exact .cons (kV_is h) (items_are t)
abbrev KT (H:Hp):List (List Key × V) → List (List Key × Addr × Value) → Prop:=Paired fun p q=>p.1 = q.1 ∧ H q.2.1 = some (.tup (p.1.map kV)) ∧ RelV p.2 q.2.2
theorem KT.val {H:Hp} {kvs:List (List Key × V)} {xs:List (List Key × Addr × Value)} (r:KT H kvs xs) (k:List Key):RelO (valV kvs k) ((atKey xs k).map (·.2)):=by
  induction r with
  | nil=>exact True.intro
  | @cons p q ps qs h t ih =>
    obtain ⟨h1,_,h2⟩:=h
    by_cases e:p.1 = k
    · have e':q.1 = k:=h1.symm.trans e
      have b:atKey (q :: qs) k = some q.2:=by simp [atKey,List.find?_cons,e']
      rw [valV_pos e,b]; exact h2
    · have e':¬ q.1 = k:=fun z=>e (h1.trans z)
      have b:atKey (q :: qs) k = atKey qs k:=by simp [atKey,List.find?_cons,e']
      rw [valV_neg e,b]; exact ih
theorem KT.repl {H:Hp} {kvs:List (List Key × V)} {xs:List (List Key × Addr × Value)} (r:KT H kvs xs) (k:List Key) {y:V} {u:Value} (ry:RelV y u) :
    KT H (kvs.map fun kv=>if kv.1 = k then (kv.1,y) else kv) (xs.map (putAt k u)):=by
  induction r with
  | nil=>exact .nil
  | @cons p q ps qs h t ih =>
    rw [List.map_cons,List.map_cons]
    refine .cons ?_ ih
    obtain ⟨h1,h2,h3⟩:=h
    unfold putAt
    by_cases e:p.1 = k
    · rw [if_pos e,if_pos (h1.symm.trans e)]; exact ⟨h1,h2,ry⟩
    · rw [if_neg e,if_neg (fun z=>e (h1.trans z))]; exact ⟨h1,h2,h3⟩
theorem KT.put {H:Hp} {kvs:List (List Key × V)} {xs:List (List Key × Addr × Value)} (r:KT H kvs xs) (k:List Key) {b:Addr} {y:V} {u:Value} (hb:H b = some (.tup (k.map kV))) (ry:RelV y u) :
    KT H (putK kvs k y) (storedH xs k b u):=by
  have e:(kvs.any fun kv=>decide (kv.1 = k)) = (atKey xs k).isSome:=by
    rw [valV_any,(r.val k).isSome_eq,Option.isSome_map]
  unfold putK storedH
  rw [e]
  by_cases q:(atKey xs k).isSome = true
  · rw [if_pos q,if_pos q]; exact r.repl k ry
  · rw [if_neg q,if_neg q]; exact Paired.snoc r ⟨rfl,hb,ry⟩
theorem KT.keeps {H H':Hp} {kvs:List (List Key × V)} {xs:List (List Key × Addr × Value)} (r:KT H kvs xs) (ht:∀ b ys,H b = some (.tup ys) → H' b = some (.tup ys)):KT H' kvs xs :=
  Paired.mapP r fun _ _ z=>⟨z.1,ht _ _ z.2.1,z.2.2⟩
section
variable {P:Program} {w:World} {H:Hp} {h:Heap} {a:Addr}
theorem rd_of {u:HO} (ok:HOk P w H h) (e:Rd H a u):ObjOk P w H h a u:=e.ok ok
theorem dk_rd {kvs:List (Key × V)} (ok:HOk P w H h) (e:Rd H a (.dK kvs)):kvs.length ≤ sizeLine ∧ (a == sysModules) = false ∧ ∃ vs,KV kvs vs ∧ h.DictOf (mixKind P w) a vs :=
  show ObjOk P w H h a (.dK kvs) from rd_of ok e
theorem dk_of {kvs:List (Key × V)} (ok:HOk P w H h) (e:H a = some (.dK kvs)):kvs.length ≤ sizeLine ∧ (a == sysModules) = false ∧ ∃ vs,KV kvs vs ∧ h.DictOf (mixKind P w) a vs:=dk_rd ok (.inl e)
theorem key_of {ks:List Key} (ok:HOk P w H h) (e:H a = some (.tup (ks.map kV))):(tupleKind (mixKind P w)).is h ks a:=by
  obtain ⟨_,its,r,o,h1,h2,n,h3⟩:=(show ObjOk P w H h a (.tup (ks.map kV)) from ok a _ e)
  exact ⟨o,its.toArray,n,h1,h2,h3,by simpa using items_are r⟩
theorem dt_rd {kvs:List (List Key × V)} (ok:HOk P w H h) (e:Rd H a (.dT kvs)):kvs.length ≤ sizeLine ∧ (a == sysModules) = false ∧
    ∃ xs,KT H kvs xs ∧ h.DictOfH (tupleKind (mixKind P w)) a xs:=by
  obtain ⟨z,y,xs,r,o,es,ep,h1,h2,h3,h4,h5⟩:=(show ObjOk P w H h a (.dT kvs) from rd_of ok e)
  refine ⟨z,y,xs,r,o,es,ep,h1,h2,h3,h4,fun x hx=>?_,h5⟩
  have all:∀ {l:List (List Key × V)} {m:List (List Key × Addr × Value)},KT H l m → ∀ x ∈ m,(tupleKind (mixKind P w)).is h x.1 x.2.1:=by
    intro l m q
    induction q with
    | nil=>intro x hx; exact nomatch hx
    | @cons p q ps qs hq t ih =>
      intro x hx
      rcases List.mem_cons.mp hx with e | hx
      · subst e
        exact key_of ok (by rw [← hq.1]; exact hq.2.1)
      · exact ih x hx
  exact all r x hx
theorem dt_of {kvs:List (List Key × V)} (ok:HOk P w H h) (e:H a = some (.dT kvs)):kvs.length ≤ sizeLine ∧ (a == sysModules) = false ∧
    ∃ xs,KT H kvs xs ∧ h.DictOfH (tupleKind (mixKind P w)) a xs:=dt_rd ok (.inl e)
end
def DGet (H:Hp) (a:Addr) (y:V) (r:Option V):Prop :=
  (∃ kvs k,Rd H a (.dK kvs) ∧ y = kV k ∧ r = valV kvs k) ∨ ∃ kvs k b,Rd H a (.dT kvs) ∧ y = .ref b ∧ H b = some (.tup (k.map kV)) ∧ r = valV kvs k
def DPut (H:Hp) (a:Addr) (y v:V) (H':Hp):Prop :=
  (∃ kvs k,H a = some (.dK kvs) ∧ y = kV k ∧ kvs.length < sizeLine ∧ H' = upd H a (.dK (putK kvs k v))) ∨
  ∃ kvs k b,H a = some (.dT kvs) ∧ y = .ref b ∧ H b = some (.tup (k.map kV)) ∧ kvs.length < sizeLine ∧ H' = upd H a (.dT (putK kvs k v))
theorem DGet.k {H:Hp} {a:Addr} {kvs:List (Key × V)} {k:Key} (e:H a = some (.dK kvs)):DGet H a (kV k) (valV kvs k):=.inl ⟨kvs,k,.inl e,rfl,rfl⟩
theorem DPut.k {H:Hp} {a:Addr} {kvs:List (Key × V)} {k:Key} {v:V} (e:H a = some (.dK kvs)) (hl:kvs.length < sizeLine):DPut H a (kV k) v (upd H a (.dK (putK kvs k v))):=.inl ⟨kvs,k,e,rfl,hl,rfl⟩
section
variable {X:Cx} {pins:List (Addr × Obj)} {σ:St} {H:Hp} {s:Shared} {a:Addr} {y v:V} {u r:Value} {o:Option V} {A:Around} {E:Value → Shared → Prop}
theorem Inv.big (I:Inv X pins σ H s):sysModules < s.heap.objs.size:=by
  have h:mainGlobals < s.heap.objs.size:=(I.mod.glob.keeps I.bk).lt
  exact Nat.lt_trans (by decide) h
theorem d_getItem {Q:Value → Shared → Prop} (hu:A.units + 1 < cLine) (I:Inv X pins σ H s) (g:DGet H a y (some v)) (ry:RelV y u) (h:∀ w' s',Inv X pins σ H s' → RelV v w' → Q w' s') :
    wpAny (model X.prog X.w) A (getItem (.ref a) u) Q E s:=by
  rcases g with ⟨kvs,k,e,ey,l⟩ | ⟨kvs,k,b,e,ey,eb,l⟩
  · subst ey
    obtain ⟨z,hd,vs,rel,dd⟩:=dk_rd I.hok e
    obtain ⟨w',hw,rw'⟩:=RelO.some_of (v:=v) (o:=valueAt vs k) (by rw [l]; exact rel.val k)
    exact wpAny_getItem_of (kV_is ry) dd.mapOf hw (h w' _ (I.tok _) rw')
  · subst ey
    cases (show u = Value.ref b from ry)
    obtain ⟨z,hd,xs,rel,dd⟩:=dt_rd I.hok e
    obtain ⟨w',hw,rw'⟩:=RelO.some_of (v:=v) (o:=(atKey xs k).map (·.2)) (by rw [l]; exact rel.val k)
    obtain ⟨p,hp,hp2⟩:=Option.map_eq_some_iff.mp hw
    refine wpAny_getItem_heap (tupleKind_room_in1 hu) (key_of I.hok eb) dd hp ?_
    rw [hp2]
    exact h w' _ (I.tok _) rw'
theorem d_in {Q:Value → Shared → Prop} (hu:A.units + 1 < cLine) (I:Inv X pins σ H s) (g:DGet H a y o) (ry:RelV y u) (h:∀ s',Inv X pins σ H s' → Q (.bool o.isSome) s') :
    wpAny (model X.prog X.w) A (compareOp .In u (.ref a)) Q E s:=by
  rcases g with ⟨kvs,k,e,ey,l⟩ | ⟨kvs,k,b,e,ey,eb,l⟩
  · subst ey
    obtain ⟨z,hd,vs,rel,dd⟩:=dk_rd I.hok e
    refine wpAny_in_of (kV_is ry) hd dd.mapOf ?_
    rw [← (rel.val k).isSome_eq,← l]
    exact h _ (I.tok _)
  · subst ey
    cases (show u = Value.ref b from ry)
    obtain ⟨z,hd,xs,rel,dd⟩:=dt_rd I.hok e
    refine wpAny_in_heap (tupleKind_room_in1 hu) (key_of I.hok eb) hd dd ?_
    have q:=(rel.val k).isSome_eq
    rw [Option.isSome_map] at q
    rw [← q,← l]
    exact h _ (I.tok _)
theorem d_notIn {Q:Value → Shared → Prop} (hu:A.units + 1 < cLine) (I:Inv X pins σ H s) (g:DGet H a y o) (ry:RelV y u) (h:∀ s',Inv X pins σ H s' → Q (.bool (!o.isSome)) s') :
    wpAny (model X.prog X.w) A (compareOp .NotIn u (.ref a)) Q E s:=by
  rcases g with ⟨kvs,k,e,ey,l⟩ | ⟨kvs,k,b,e,ey,eb,l⟩
  · subst ey
    obtain ⟨z,hd,vs,rel,dd⟩:=dk_rd I.hok e
    refine wpAny_notIn_of (kV_is ry) hd dd.mapOf ?_
    rw [← (rel.val k).isSome_eq,← l]
    exact h _ (I.tok _)
  · subst ey
    cases (show u = Value.ref b from ry)
    obtain ⟨z,hd,xs,rel,dd⟩:=dt_rd I.hok e
    refine wpAny_notIn_heap (tupleKind_room_in1 hu) (key_of I.hok eb) hd dd ?_
    have q:=(rel.val k).isSome_eq
    rw [Option.isSome_map] at q
    rw [← q,← l]
    exact h _ (I.tok _)
theorem d_write {h':Heap} {t':Nat} {ob:HO} (I:Inv X pins σ H s) (mu:Mut (H a)) (hs:Heap.SameBut a s.heap h') (he:∃ q,h'.get? a = some q) (new:ObjOk X.prog X.w (upd H a ob) h' a ob) :
    Inv X pins σ (upd H a ob) { s with heap:=h',toks:=t' } :=
  I.write (x:=a) (e:=a) mu (.inl rfl) (fun b q hb z=>(hs.2 b hb).trans z) he new
theorem dk_new {P:Program} {w:World} {H':Hp} {h':Heap} {kvs:List (Key × V)} {vs:List (Key × Value)} (z:kvs.length ≤ sizeLine) (hd:(a == sysModules) = false) (rel:KV kvs vs) (dd:h'.DictOf (mixKind P w) a vs) :
    ObjOk P w H' h' a (.dK kvs):=⟨z,hd,vs,rel,dd⟩
theorem d_setItem {H':Hp} {Q:Unit → Shared → Prop} (hu:A.units + 1 < cLine) (I:Inv X pins σ H s) (g:DPut H a y v H') (ry:RelV y u) (rv:RelV v r) (h:∀ s',Inv X pins σ H' s' → Q () s') :
    wpAny (model X.prog X.w) A (setItem (.ref a) u r) Q E s:=by
  rcases g with ⟨kvs,k,e,ey,l,eH⟩ | ⟨kvs,k,b,e,ey,eb,l,eH⟩
  · subst ey eH
    obtain ⟨z,hd,vs,rel,dd⟩:=dk_of I.hok e
    have hz:vs.length ≤ sizeLine:=by rw [← rel.length]; exact z
    have hl:(putK kvs k v).length ≤ sizeLine:=by have:=length_putK kvs k v; omega
    refine wpAny_setItem_pairs (hsz:=hz) (kV_is ry) dd fun h' dd' hs=>h _ ?_
    have he:∃ q,h'.get? a = some q:=let ⟨q,_,_,hq,_⟩:=dd'; ⟨q,hq⟩
    exact d_write I (by rw [e]; exact True.intro) hs he (dk_new hl hd (rel.put k rv) dd')
  · subst ey eH
    cases (show u = Value.ref b from ry)
    obtain ⟨z,hd,xs,rel,dd⟩:=dt_of I.hok e
    have hz:xs.length ≤ sizeLine:=by rw [← Paired.length rel]; exact z
    have hl:(putK kvs k v).length ≤ sizeLine:=by have:=length_putK kvs k v; omega
    refine wpAny_setItem_heap (hsz:=hz) (tupleKind_room_in1 hu) (key_of I.hok eb) dd fun h' dd' hs=>h _ ?_
    obtain ⟨q,es,ep,hq,h2,h3,h4,_,h5⟩:=dd'
    refine d_write I (by rw [e]; exact True.intro) hs ⟨q,hq⟩ ⟨hl,hd,_,(rel.put k eb rv).keeps fun c ys ec=>?_,q,es,ep,hq,h2,h3,h4,h5⟩
    rw [upd_ne (ne_of ec e (fun z=>nomatch z))]
    exact ec
end
section
variable {X:Cx} {pins:List (Addr × Obj)} {σ:St} {H:Hp} {s:Shared} {a:Addr} {kvs:List (Key × V)} {k:Key} {u:Value} {A:Around} {E:Value → Shared → Prop}
end
def NoSl (i:Expr):Prop:=∀ ov iv,subscripted i false ov iv = operate [ov,iv] (getItem ov iv)
theorem subD_of {prog:Program} {w:World} {A:Around} {E:Value → Shared → Prop} {s:Shared} {env:Env} {value slice:Expr} {pos:Pos} {T id:String} {Q:Value → Shared → Prop}
    (hl:typeLookup (.type T) "__getitem__" = pure (some (.builtin id))) (hs:NoSl slice)
    (h:wpAny (model prog w) A (eval value env) (fun o s₁=>wpAny (model prog w) A (eval slice env) (fun i s₂=>s₂.TypeIs o T ∧ wpAny (model prog w) A (getItem o i) Q E s₂) E s₁) E s) :
    wpAny (model prog w) A (eval (.Subscript value slice pos) env) Q E s:=by
  refine Subscript_ (wpAny_mono h (fun o s₁ h₁=>wpAny_mono h₁ (fun i s₂ h₂=>?_) fun _ _ x=>x) fun _ _ x=>x)
  obtain ⟨hT,h₂⟩:=h₂
  unfold subscriptTail
  refine wpAny_bind ?_
  rw [getitemInPython_of_ne hT.not_modules]
  refine wpAny_bind (wpAny_specialOf hT hl ?_)
  have fin:wpAny (model prog w) A (subscripted slice false o i) (fun r s₃=>wpAny (model prog w) A (letTemporaryGo value o r >>= fun _=>pure r) Q E s₃) E s₂:=by
    rw [hs o i]
    exact wpAny_operating (wpAny_mono h₂ (fun r s₃ h₃=>wpAny_bind (wpAny_letTemporaryGo (wpAny_pure h₃))) fun _ _ x=>x)
  first
    | exact wpAny_pure (wpAny_bind fin)
    | exact wpAny_bind (wpAny_pure (wpAny_bind fin))
    | exact wpAny_bind fin
theorem dict_typeIs {X:Cx} {pins:List (Addr × Obj)} {σ:St} {H:Hp} {s:Shared} {a:Addr} {y:V} {o:Option V} (I:Inv X pins σ H s) (g:DGet H a y o):s.TypeIs (.ref a) "dict" := by
  rcases g with ⟨kvs,k,e,_,_⟩ | ⟨kvs,k,b,e,_,_,_⟩
  · obtain ⟨_,_,vs,_,dd⟩:=dk_rd I.hok e
    exact dd.typeIs
  · obtain ⟨_,_,xs,_,dd⟩:=dt_rd I.hok e
    exact dd.typeIs
def tDGet (td ty:TE):TE:=fun σ H Q=>td σ H fun x H1=>ty σ H1 fun y H2=>∃ a v,x = .ref a ∧ DGet H2 a y (some v) ∧ Q v H2
def tDIn (ty td:TE):TE:=fun σ H Q=>ty σ H fun y H1=>td σ H1 fun x H2=>∃ a o,x = .ref a ∧ DGet H2 a y o ∧ Q (.bl o.isSome) H2
def tDNotIn (ty td:TE):TE:=fun σ H Q=>ty σ H fun y H1=>td σ H1 fun x H2=>∃ a o,x = .ref a ∧ DGet H2 a y o ∧ Q (.bl (!o.isSome)) H2
def sDPut (td ty tv:TE):TS:=fun D σ H=>tv σ H fun v H1=>td σ H1 fun x H2=>ty σ H2 fun y H3=>∃ a H4,x = .ref a ∧ DPut H3 a y v H4 ∧ D.nx σ H4
section
variable {X:Cx} {o i e value:Expr} {pos pos' tpos:Pos} {td ty tv:TE}
theorem pe_dget (hu:X.A.units + 1 < cLine) (ho:PE X o td) (hi:PE X i ty) (hs:NoSl i):PE X (.Subscript o i pos) (tDGet td ty):=by
  intro pins s σ H Q I h
  refine subD_of PySem.F.slot_dict_getitem.lookup hs (thn (ho pins s σ H _ I h) fun u s1 ⟨x,H1,I1,rx,q1⟩=>thn (hi pins s1 σ H1 _ I1 q1) fun iv s2 ⟨y,H2,I2,ry,a,v,ex,g,q2⟩=>?_)
  subst ex
  obtain rfl:u = Value.ref a:=rx
  exact ⟨dict_typeIs I2 g,d_getItem hu I2 g ry fun w' s3 I3 rw'=>⟨v,H2,I3,rw',q2⟩⟩
theorem pc_din (hu:X.A.units + 1 < cLine) (hi:PE X i ty) (ho:PE X o td):PC X .In i o (tDIn ty td):=by
  intro pins s σ H Q I h
  refine thn (hi pins s σ H _ I h) fun iv s1 ⟨y,H1,I1,ry,q1⟩=>thn (ho pins s1 σ H1 _ I1 q1) fun u s2 ⟨x,H2,I2,rx,a,ov,ex,g,q2⟩=>?_
  subst ex
  obtain rfl:u = Value.ref a:=rx
  exact d_in hu I2 g ry fun s3 I3=>⟨.bl ov.isSome,H2,I3,rfl,q2⟩
theorem pc_dnotin (hu:X.A.units + 1 < cLine) (hi:PE X i ty) (ho:PE X o td):PC X .NotIn i o (tDNotIn ty td):=by
  intro pins s σ H Q I h
  refine thn (hi pins s σ H _ I h) fun iv s1 ⟨y,H1,I1,ry,q1⟩=>thn (ho pins s1 σ H1 _ I1 q1) fun u s2 ⟨x,H2,I2,rx,a,ov,ex,g,q2⟩=>?_
  subst ex
  obtain rfl:u = Value.ref a:=rx
  exact d_notIn hu I2 g ry fun s3 I3=>⟨.bl (!ov.isSome),H2,I3,rfl,q2⟩
theorem ps_dput (hu:X.A.units + 1 < cLine) (ho:PE X o td) (hi:PE X i ty) (hv:PE X value tv) (hs:swapsWith value (some (.Subscript o i pos')) pos.line X.env = pure false) :
    PS X (.Assign [.Subscript o i pos'] value pos) (sDPut td ty tv):=by
  intro pins s σ H D I h
  refine wpAny_Assign_Subscript (thn (hv pins s σ H _ I h) fun r s1 ⟨v,H1,I1,rv,q1⟩=>thn (ho pins s1 σ H1 _ I1 q1) fun u s2 ⟨x,H2,I2,rx,q2⟩=>thn (hi pins s2 σ H2 _ I2 q2) fun iv s3 ⟨y,H3,I3,ry,a,H4,ex,g,q3⟩=>?_) hs
  subst ex
  obtain rfl:u = Value.ref a:=rx
  exact d_setItem hu I3 g ry rv fun s4 I4=>⟨σ,H4,I4,q3⟩
end
theorem dk_empty {P:Program} {w:World} {H:Hp} (h:Heap) (hb:sysModules < h.objs.size):ObjOk P w H (h.push { cls:=.type "dict", data:=.dict #[] }) h.objs.size (.dK []) :=
  ⟨Nat.zero_le _,beq_eq_false_iff_ne.mpr (Ne.symm (Nat.ne_of_lt hb)),[],.nil,Heap.DictOf.new h⟩
def tDNewK:TE:=fun _ H Q=>∀ p,H p = none → Q (.ref p) (upd H p (.dK []))
section
variable {X:Cx} {pos:Pos}
theorem pe_dnewK:PE X (.Dict [] [] pos) tDNewK:=fun pins s σ H Q I h =>
  wpAny_Dict_empty ⟨.ref s.heap.objs.size,_,I.laid (a:=s.heap.objs.size) (o:=.dK []) (t':=s.toks) (fun _ _ q=>Heap.get?_push_of_some _ q) (Nat.le_refl _) (dk_empty s.heap I.big),rfl,h _ (I.hok.fresh (Nat.le_refl _))⟩
end
def tPairs:List (TE × TE) → St → Hp → (List (V × V) → Hp → Prop) → Prop
  | [],_,H,Q=>Q [] H
  | (tk,tv) :: r,σ,H,Q=>tk σ H fun x H1=>tv σ H1 fun y H2=>tPairs r σ H2 fun ps H3=>Q ((x,y) :: ps) H3
abbrev VV:List (V × V) → List (Value × Value) → Prop:=Paired fun p q=>RelV p.1 q.1 ∧ RelV p.2 q.2
def PPs (X:Cx) (pos:Pos) (keys:List (Option Expr)) (values:List Expr) (trs:List (TE × TE)):Prop :=
  ∀ (pins:List (Addr × Obj)) (s:Shared) (σ:St) (H:Hp) (Q:List (V × V) → Hp → Prop),Inv X pins σ H s → tPairs trs σ H Q →
    wpAny (model X.prog X.w) X.A (evalPairs (pairTrees keys values X.env pos)) (fun vs s'=>∃ ps H',Inv X pins σ H' s' ∧ VV ps vs ∧ Q ps H') X.xe s
theorem pps_nil {X:Cx} {pos:Pos}:PPs X pos [] [] []:=fun pins s σ H Q I h=>pairTrees_nil_walk ⟨[],H,I,.nil,h⟩
theorem pps_cons {X:Cx} {pos:Pos} {k v:Expr} {ks:List (Option Expr)} {vs:List Expr} {tk tv:TE} {trs:List (TE × TE)} (hk:PE X k tk) (hv:PE X v tv) (hr:PPs X pos ks vs trs) :
    PPs X pos (some k :: ks) (v :: vs) ((tk,tv) :: trs):=fun pins s σ H Q I h =>
  pairTrees_cons_walk (thn (hk pins s σ H _ I h) fun u s1 ⟨x,H1,I1,rx,q1⟩=>thn (hv pins s1 σ H1 _ I1 q1) fun w2 s2 ⟨y,H2,I2,ry,q2⟩ =>
    thn (hr pins s2 σ H2 _ I2 q2) fun ws s3 ⟨ps,H3,I3,rel,q3⟩=>⟨(x,y) :: ps,H3,I3,.cons ⟨rx,ry⟩ rel,q3⟩)
def mergeK (kvs more:List (Key × V)):List (Key × V):=more.foldl (fun acc kv=>putK acc kv.1 kv.2) kvs
theorem KV.merge:∀ {more:List (Key × V)} {rs:List (Key × Value)} {kvs:List (Key × V)} {vs:List (Key × Value)},KV more rs → KV kvs vs → KV (mergeK kvs more) (merged vs rs):=by
  intro more rs kvs vs r
  unfold KV at r
  induction r generalizing kvs vs with
  | nil=>intro q; exact q
  | @cons p q ps qs h t ih =>
    intro r0
    have e:KV (putK kvs p.1 p.2) (stored vs q.1 q.2):=by
      have:=r0.put p.1 h.2
      rw [← h.1]; exact this
    exact ih e
theorem length_mergeK:∀ (more kvs:List (Key × V)),(mergeK kvs more).length ≤ kvs.length + more.length
  | [],kvs=>by show kvs.length ≤ kvs.length + 0; omega
  | p :: r,kvs=>by
    have h1:=length_mergeK r (putK kvs p.1 p.2)
    have h2:=length_putK kvs p.1 p.2
    show (mergeK (putK kvs p.1 p.2) r).length ≤ _
    rw [List.length_cons]; omega
theorem carries_of {P:Program} {w:World}:∀ {kvs:List (Key × V)} {ws:List (Value × Value)},VV (kvs.map fun kv=>(kV kv.1,kv.2)) ws → ∃ rs,Carries (mixKind P w) ws rs ∧ KV kvs rs
  | [],_,r=>by rw [List.map_nil] at r; cases r; exact ⟨[],True.intro,.nil⟩
  | p :: kvs,_,r=>by
    rw [List.map_cons] at r
    cases r with
    | @cons a b as bs h t =>
      obtain ⟨rs,c,q⟩:=carries_of (P:=P) (w:=w) t
      obtain ⟨b1,b2⟩:=b
      exact ⟨(p.1,b2) :: rs,⟨kV_is h.1,rfl,c⟩,.cons ⟨rfl,h.2⟩ q⟩
def tDisp (trs:List (TE × TE)):TE:=fun σ H Q=>∀ p,H p = none → tPairs trs σ (upd H p (.dK [])) fun ps H2=>H2 p = some (.dK []) ∧ ∃ kvs:List (Key × V),ps = kvs.map (fun kv=>(kV kv.1,kv.2)) ∧ kvs.length ≤ 15 ∧ Q (.ref p) (upd H2 p (.dK (mergeK [] kvs)))
theorem pe_disp {X:Cx} {pos:Pos} {keys:List (Option Expr)} {values:List Expr} {trs:List (TE × TE)} (h:PPs X pos keys values trs) (hall:keys.all (·.isSome) = true) (hl:keys.length = values.length) (h0:keys ≠ [])
    (h15:keys.length ≤ 15):PE X (.Dict keys values pos) (tDisp trs):=by
  intro pins s σ H Q I q
  have hn:=I.hok.fresh (Nat.le_refl s.heap.objs.size)
  have I1:=I.laid (a:=s.heap.objs.size) (o:=.dK []) (h':=s.heap.push { cls:=.type "dict", data:=.dict #[] }) (t':=s.toks) (fun _ _ q=>Heap.get?_push_of_some _ q) (Nat.le_refl _) (dk_empty s.heap I.big)
  refine wpAny_Dict_walk (knd:=mixKind X.prog X.w) hall hl h0 h15 (thn (h pins _ σ _ _ I1 (q _ hn)) fun ws s2 ⟨ps,H2,I2,rel,e,kvs,ep,lk,q2⟩=>?_)
  subst ep
  obtain ⟨rs,c,rk⟩:=carries_of (P:=X.prog) (w:=X.w) rel
  obtain ⟨z,hd,vs0,r0,dd⟩:=dk_of I2.hok e
  cases r0
  refine ⟨rs,c,dd,fun h' dd' hs=>⟨.ref s.heap.objs.size,_,?_,rfl,q2⟩⟩
  have hz:(mergeK [] kvs).length ≤ sizeLine:=by
    have h1:=length_mergeK kvs []
    rw [List.length_nil] at h1
    rw [sizeLine_eq]; omega
  have he:∃ q,h'.get? s.heap.objs.size = some q:=let ⟨q,_,_,hq,_⟩:=dd'; ⟨q,hq⟩
  exact d_write I2 (by rw [e]; exact True.intro) hs he (dk_new hz hd (rk.merge .nil) dd')
section
variable {X:Cx} {pins:List (Addr × Obj)} {σ:St} {H:Hp} {s:Shared} {a:Addr} {y d:V} {u r:Value} {o:Option V} {A:Around} {E:Value → Shared → Prop}
end
section
variable {X:Cx} {o e f:Expr} {apos cpos:Pos} {td ty tx:TE}
end
section
variable {X:Cx} {pins:List (Addr × Obj)} {σ:St} {H:Hp} {s:Shared} {a:Addr} {kvs:List (Key × V)} {A:Around} {E:Value → Shared → Prop}
end
section
variable {X:Cx} {pins:List (Addr × Obj)} {σ:St} {H:Hp} {s:Shared} {a:Addr} {y:V} {u:Value} {A:Around} {E:Value → Shared → Prop}
end
end L2
set_option Elab.async false
set_option linter.all false
set_option maxRecDepth 100000
namespace L2
open PySem PySem.Spec PyProof.Rows
section
variable {X:Cx}
theorem call_sortedI:CallR X (.builtin "sorted") (fun xs H Q=>∃ (p:Addr) (ns:List Int),xs = [.ref p] ∧ SqL X.K H p (ns.map V.int) ∧ ns.length < 64 ∧ ∀ (l:Addr) (ns':List Int),H l = none → ns'.Perm ns → ns'.Pairwise (· ≤ ·) → Q (.ref l) (upd H l (.lst (ns'.map V.int)))):=by
  intro pins s σ H xs us Q I r h
  obtain ⟨p,ns,rfl,hq,h64,q⟩:=h
  obtain ⟨u,rfl,ru⟩:=vals1 r
  cases ru
  obtain ⟨its,rv,pl,hz⟩:=I.list hq
  have hi:=intsAre_of rv
  have hlen:its.length = ns.length:=hi.length
  refine sorted_ints pl.isList hi (by omega) fun out ns' ho hp hs=>?_
  obtain ⟨e,he⟩:=sortedAll_at s.heap its out
  have kp:∀ b o,s.heap.get? b = some o → (sortedAll s.heap its out).get? b = some o:=fun b o q=>sortedAll_old q
  have hfr:H (s.heap.objs.size + 1) = none:=I.hok.fresh (Nat.le_succ _)
  refine ⟨.ref _,_,I.laid (t':=s.toks) (a:=s.heap.objs.size + 1) (o:=.lst (ns'.map V.int)) kp (Nat.le_succ _) ⟨?_,out.toList,e,vals_ints ho,by rw [Array.toArray_toList]; exact he⟩,rfl,q _ ns' hfr hp hs⟩
  rw [List.length_map,hp.length_eq,sizeLine_eq]
  omega
theorem op_inT:OpR X (compareOp .In) (fun x y H Q=>∃ (i:Int) (b:Addr) (ns:List Int),x = .int i ∧ y = .ref b ∧ SqT X.K H b (ns.map V.int) ∧ Q (.bl (decide (i ∈ ns))) H):=by
  intro pins s σ H x y v u Q I rx ry h
  obtain ⟨i,b,ns,rfl,rfl,hq,q⟩:=h
  obtain ⟨t,rfl⟩:=rx
  cases ry
  obtain ⟨its,rv,ht,hz⟩:=I.tuple hq
  have hi:=intsAre_of rv
  have hit:s.heap.IsTuple b its.toArray:=ht
  refine PySem.SeqAt.in_tupleAt (fun y=>numOf y == i) hit (fun y hy=>?_) ?_
  · obtain ⟨n,t',rfl⟩:=hi.all y (by simpa using hy)
    exact PySem.SeqAt.EqAt.int_int n t' i t
  · refine ⟨.bl _,H,I,?_,q⟩
    show Value.bool _ = Value.bool _
    congr 1
    rw [List.any_toArray,← hi.nums]
    apply Bool.eq_iff_iff.mpr
    rw [List.any_eq_true,decide_eq_true_iff,List.mem_map]
    constructor
    · rintro ⟨y,hy,e⟩
      exact ⟨y,hy,by simpa using e⟩
    · rintro ⟨y,hy,e⟩
      exact ⟨y,hy,by simpa using e⟩
end
theorem miss_keys:typeLookup (.type "list") "keys" = pure none:=by rw [typeLookup_type,builtinLookup_eq_fast]; kernel_rfl
section
variable {prog:Program} {w:World} {A:Around} {E:Value → Shared → Prop} {s:Shared}
theorem list_noKeys {a:Addr} {xs:Array Value} {k:Nat} {sl:Array (Option Value)} {Q:Option Value → Shared → Prop} (hx:s.heap.get? a = some { cls:=.type "list", dict:=none,data:=.seq xs k,slots:=sl }) (hA:A.handled = none)
    (h:∀ h' tk,(∀ b o,s.heap.get? b = some o → h'.get? b = some o) → Q none { s with heap:=h',toks:=tk }):wpAny (model prog w) A (getAttr? (.ref a) "keys") Q E s:=by
  obtain ⟨hp,g,d,tk,os⟩:=s
  have hT:∀ tk',(⟨hp,g,d,tk',os⟩:Shared).TypeIs (.ref a) "list" := fun _=>⟨_,hx,rfl⟩
  have f1:=sub_AttributeError
  have f3:=F.slot_list_getattribute.lookup
  have f4:=F.slot_list_getattribute.bind (.ref a)
  have f5:=am_list_getattr_none
  unfold getAttr? getAttrBy? getAttrBy
  repeat (any_goals (first | assumption | exact hT _ | ((with_reducible show wpAny _ _ (call (Value.builtin "list.__getattribute__") _ _) _ _ _); refine call_meets F.slot_list_getattribute (hT _) am_entry_list_getattribute (F.args_list_getattribute_2 _ _) (meets_getattribute_miss_list a xs k sl "keys" _ miss_keys (by decide)) ⟨hx,hA,fun h' tk' e hx'=>?_⟩) | wp_step))
  obtain ⟨t',u',he⟩:=hx'.there
  show wpAny _ _ (getattributeRaised _ _ _ _ _ _ _) _ _ _
  unfold getattributeRaised
  repeat (any_goals (first | assumption | wp_step))
  exact h h' tk' hx'.of.keeps
end
def mkD (l:List (Int × V)):List (Key × V):=l.foldl (fun acc kv=>putK acc (.inl kv.1) kv.2) []
theorem mkD_snoc {l:List (Int × V)} {kv:Int × V}:mkD (l ++ [kv]) = putK (mkD l) (.inl kv.1) kv.2:=by unfold mkD; rw [List.foldl_append]; rfl
theorem mkD_len:∀ l:List (Int × V),(mkD l).length ≤ l.length:=by
  have:∀ (l:List (Int × V)) (acc:List (Key × V)),(l.foldl (fun acc kv=>putK acc (Sum.inl kv.1) kv.2) acc).length ≤ acc.length + l.length:=fun l=>by
    induction l with
    | nil=>exact fun acc=>Nat.le_refl _
    | cons x l ih =>
      intro acc
      have h1:=ih (putK acc (.inl x.1) x.2)
      have h2:=length_putK acc (.inl x.1) x.2
      rw [List.foldl_cons,List.length_cons]
      omega
  intro l
  have h:=this l []
  rw [List.length_nil,Nat.zero_add] at h
  exact h
theorem entry_dul:entryFor table "dict.update.loop" = some Builtin.«dict.update.loop»:=entryFor_of_fast (by kernel_rfl)
theorem plain_dul:plainId "dict.update.loop" = true:=by decide +kernel
section
variable {X:Cx} {pins:List (Addr × Obj)} {σ:St} {H:Hp} {A:Around} {R:Result → Shared → Prop}
theorem dict_loop {d it p:Addr} {as:List Addr} {kvs:List (Int × V)} (hA:A.handled = none) (hp:SqL X.K H p (as.map V.ref)) (hd:H d = none) (fi:FpOk X pins H it) (hit:it ≠ d) (hk:Paired (fun b (kv:Int × V)=>H b = some (.tup [.int kv.1,kv.2])) as kvs) (hl:kvs.length ≤ 1000)
    (h:∀ s',Inv X pins σ (upd H d (.dK (mkD kvs))) s' → R (.ok (.ret .none)) s') :
    ∀ (k i:Nat) (s:Shared),kvs.length - i = k → i ≤ kvs.length → Inv X pins σ (upd H d (.dK (mkD (kvs.take i)))) s → s.heap.IsListIter it p i → codeAny (model X.prog X.w) A (.builtin "dict.update.loop" ⟨[.ref d,.ref it,rawInt i,.none],[]⟩) R s:=by
  have hal:=hk.length
  intro k
  induction k with
  | zero =>
    intro i s e hi I hI
    have ei:i = kvs.length:=by omega
    subst ei
    rw [List.take_length] at I
    refine codeAny_builtin entry_dul ?_
    rw [Around.under_plainId plain_dul _]
    have sN:=same_new hd (.dK (mkD kvs))
    obtain ⟨its,rv,pl,hz⟩:=I.list (sN.seq hp)
    have hle:its.length = kvs.length:=by
      have:=rv.length
      rw [List.length_map,hal] at this
      exact this.symm
    show wpAny _ _ (pyNext (.ref it) >>= _) _ _ s
    refine wpAny_bind (wpAny_pyNext_list_end (A:=A.in1) hA hI pl.isList (by simp [hle]) fun h' hx=>?_)
    have I2:Inv X pins σ (upd H d (.dK (mkD kvs))) { s with heap:=h',toks:=s.toks }:=I.turned (it:=it) (t':=s.toks) hx (by rw [upd_ne hit]; exact fi.1) fi.2.1 fi.2.2.2.1 fi.2.2.2.2.1 fi.2.2.2.2.2
    show wpAny _ _ (Builtin.Dict.addKeywords d [] >>= _) _ _ _
    exact wpAny_bind (wpAny_pure (wpAny_pure (h _ I2)))
  | succ k ih =>
    intro i s e hi I hI
    have hlt:i < kvs.length:=by omega
    refine codeAny_builtin entry_dul ?_
    rw [Around.under_plainId plain_dul _]
    have sN:=same_new hd (.dK (mkD (kvs.take i)))
    obtain ⟨its,rv,pl,hz⟩:=I.list (sN.seq hp)
    obtain ⟨b,hb,hq⟩:=Paired.get' hk i _ (List.getElem?_eq_getElem hlt)
    obtain ⟨u,hu,ru⟩:=rv.get (show (as.map V.ref)[i]? = some (.ref b) by rw [List.getElem?_map,hb]; rfl)
    cases ru
    show wpAny _ _ (pyNext (.ref it) >>= _) _ _ s
    refine wpAny_bind (wpAny_pyNext_list_item (A:=A.in1) hI pl.isList (x:=.ref b) (by simpa using hu) fun h' hit' hs'=>?_)
    have I2:Inv X pins σ (upd H d (.dK (mkD (kvs.take i)))) { s with heap:=h',toks:=s.toks }:=I.turned (it:=it) (t':=s.toks) hs'.extBut (by rw [upd_ne hit]; exact fi.1) fi.2.1 fi.2.2.2.1 fi.2.2.2.2.1 fi.2.2.2.2.2
    obtain ⟨its2,rv2,⟨ob,hob,hcb,n2,hdb⟩,hz2⟩:=I2.tuple (SqT.of (sN _ _ hq))
    obtain ⟨uk,uv,rfl,rk,rvv⟩:=vals2 rv2
    show wpAny _ _ (holding [Value.ref b] _ >>= _) _ _ _
    refine wpAny_bind (wpAny_holding (wpAny_bind (wpAny_tryCatch ?_)))
    unfold Builtin.Dict.pairItems
    refine wpAny_bind (wpAny_typeOf (T := "tuple") ⟨ob,hob,hcb⟩ ?_)
    rw [if_pos (by decide)]
    refine wpAny_bind (wpAny_seqItems hob hdb (wpAny_pure ?_))
    show wpAny _ _ (holding [uk,uv] (dictSet d uk uv)) _ _ _
    refine wpAny_holding ?_
    obtain ⟨z,hsd,vs,rel,dd⟩:=dk_of I2.hok (upd_same (H:=H) (a:=d) (o:=.dK (mkD (kvs.take i))))
    have hsz:vs.length ≤ sizeLine:=by rw [← rel.length]; exact z
    refine wpAny_dictSet_pairs (hsz:=hsz) (kV_is (k:=.inl kvs[i].1) rk) dd fun h3 dd3 hs3=>?_
    have hlen:(mkD (kvs.take (i + 1))).length ≤ sizeLine:=by
      have:=mkD_len (kvs.take (i + 1))
      rw [List.length_take] at this
      rw [sizeLine_eq]
      omega
    have et:kvs.take (i + 1) = kvs.take i ++ [kvs[i]]:=by rw [List.take_add_one,List.getElem?_eq_getElem hlt]; rfl
    rw [et,mkD_snoc] at hlen
    have I3:Inv X pins σ (upd H d (.dK (mkD (kvs.take (i + 1))))) { s with heap:=h3,toks:=s.toks + 1 }:=by
      have q:=d_write (t':=s.toks + 1) I2 (by rw [upd_same]; exact True.intro) hs3 (let ⟨q,_,_,hq,_⟩:=dd3; ⟨q,hq⟩) (dk_new hlen hsd (rel.put (.inl kvs[i].1) rvv) dd3)
      rw [upd_upd] at q
      rw [et,mkD_snoc]
      exact q
    refine wpAny_pure ⟨plainId_quiet plain_dul _,?_⟩
    refine ih (i + 1) _ (by omega) hlt I3 ?_
    obtain ⟨oi,h1,h2,h3'⟩:=hit'
    exact ⟨oi,(hs3.2 it hit).trans h1,h2,h3'⟩
theorem call_dictPairs {X:Cx} (hc:X.calm = true):CallR X (.type "dict") (fun xs H Q=>∃ (p:Addr) (as:List Addr) (kvs:List (Int × V)),xs = [.ref p] ∧ H p = some (.lst (as.map V.ref)) ∧ Paired (fun b (kv:Int × V)=>H b = some (.tup [.int kv.1,kv.2])) as kvs ∧ kvs.length ≤ 1000 ∧ ∀ d,H d = none → Q (.ref d) (upd H d (.dK (mkD kvs)))):=by
  intro pins s σ H xs us Q I r h
  obtain ⟨p,as,kvs,rfl,hp,hk,hl,q⟩:=h
  obtain ⟨u,rfl,ru⟩:=vals1 r
  cases ru
  have hal:=hk.length
  refine callType_codes (Q₁:=fun obj s₁=>obj = .ref s.heap.objs.size ∧ s₁ = { s with heap:=s.heap.push { cls:=.type "dict", data:=.dict #[] } }) F.kt_called_dict (F.kt_typeCall_dict_1 _) F.entry_dict_init (kt_code_dict_new _ ⟨rfl,rfl⟩) ?_
  rintro obj s₁ ⟨rfl,rfl⟩
  have hd:H s.heap.objs.size = none:=I.hok.fresh (Nat.le_refl _)
  have I1:Inv X pins σ (upd H s.heap.objs.size (.dK [])) { s with heap:=s.heap.push { cls:=.type "dict", data:=.dict #[] } }:=I.laid (t':=s.toks) (fun b o e=>Heap.get?_push_of_some _ e) (Nat.le_refl _) (dk_empty s.heap (Inv.big I))
  have hT:({ s with heap:=s.heap.push { cls:=.type "dict", data:=.dict #[] } }:Shared).TypeIs (.ref s.heap.objs.size) "dict" := ⟨_,Heap.get?_push_size _ rfl,rfl⟩
  refine ⟨hT,F.args_dict_init_2 _ _,?_⟩
  have sN:=same_new hd (.dK [])
  obtain ⟨z,its,n,rv,hz,e⟩:=I1.lstM (sN _ _ hp)
  unfold Builtin.«dict.__init__»
  refine wpAny_bind ?_
  unfold Builtin.Dict.selfAndRest
  refine wpAny_bind (wpAny_notOrdered_dict hT ?_)
  show wpAny _ _ (pure (s.heap.objs.size,[Value.ref p])) _ _ _
  refine wpAny_pure ?_
  show wpAny _ _ (Builtin.Dict.updateFrom "dict.__init__" s.heap.objs.size (.ref p) [] .none) _ _ _
  unfold Builtin.Dict.updateFrom
  refine wpAny_bind (wpAny_typeOf (T := "list") ⟨_,e,rfl⟩ ?_)
  rw [if_pos (by decide)]
  refine wpAny_bind (list_noKeys e (I.ok.hd hc) fun h' tk kp=>?_)
  rw [if_pos (show (none:Option Value).isNone = true from rfl)]
  refine wpAny_bind (wpAny_rule ?_)
  have I2:Inv X pins σ (upd H s.heap.objs.size (.dK [])) { s with heap:=h',toks:=tk }:=I1.kept (t':=tk) kp
  have hl2:h'.IsList p its.toArray:=⟨_,kp _ _ e,rfl,_,rfl⟩
  refine wpAny_bind (wpAny_pyIter_list hl2 ?_)
  have I3:Inv X pins σ (upd H s.heap.objs.size (.dK [])) { s with heap:=h'.push { cls:=.type "list_iterator", data:=.fields #[.ref p,rawInt 0] },toks:=tk }:=I2.kept (t':=tk) fun b o e=>Heap.get?_push_of_some _ e
  have hsz:s.heap.objs.size < h'.objs.size:=Heap.lt_size (kp _ _ (Heap.get?_push_size _ rfl))
  have fi:FpOk X pins H h'.objs.size:=I.fpOk (Nat.le_of_lt hsz) (I.hok.fresh (Nat.le_of_lt hsz))
  refine wpAny_pure ⟨plainId_quiet plain_dul _,?_⟩
  exact dict_loop (A:=X.A.in1) (I.ok.hd hc) (SqL.of hp) hd fi (Nat.ne_of_gt hsz) hk hl (fun s' I'=>⟨rfl,.ref _,_,I',rfl,q _ hd⟩) kvs.length 0 _ rfl (Nat.zero_le _) I3 ⟨_,Heap.get?_push_size _ rfl,rfl,rfl⟩
end
theorem op_eqP {X:Cx} (hu:X.A.units < cLine):OpR X (compareOp .Eq) (fun x y H Q=>∃ (p q:Addr) (a b:Int × Int),x = .ref p ∧ y = .ref q ∧ SqT X.K H p [.int a.1,.int a.2] ∧ SqT X.K H q [.int b.1,.int b.2] ∧ Q (.bl (decide (a = b))) H):=by
  intro pins s σ H x y v u Q I rx ry h
  obtain ⟨p,q,a,b,rfl,rfl,hp,hq,k⟩:=h
  cases rx; cases ry
  obtain ⟨us,ru,tu,_⟩:=I.tuple hp
  obtain ⟨vs,rv,tv,_⟩:=I.tuple hq
  obtain ⟨u1,u2,rfl,ru1,ru2⟩:=vals2 ru
  obtain ⟨v1,v2,rfl,rv1,rv2⟩:=vals2 rv
  have e1:=eqAt_V (A:=X.A.in1) (s:=s) ru1 rv1 rfl rfl
  have e2:=eqAt_V (A:=X.A.in1) (s:=s) ru2 rv2 rfl rfl
  refine SeqAt.eq_tupleAt (e:=fun j=>if j = 0 then eqV (.int a.1) (.int b.1) else eqV (.int a.2) (.int b.2)) (show s.heap.IsTuple p #[u1,u2] from tu) (show s.heap.IsTuple q #[v1,v2] from tv) hu (fun j h1 h2=>by
    have h1':j < 2:=h1
    match j,h1' with
    | 0,_=>exact e1
    | 1,_=>exact e2) ⟨.bl (decide (a = b)),H,I,?_,k⟩
  show Value.bool _ = Value.bool _
  congr 1
  show ((if 0 = 0 then (a.1 == b.1) else (a.2 == b.2)) && ((if 1 = 0 then (a.1 == b.1) else (a.2 == b.2)) && true) && true) = _
  obtain ⟨a1,a2⟩:=a
  obtain ⟨b1,b2⟩:=b
  by_cases h1:a1 = b1
  · by_cases h2:a2 = b2
    · subst h1; subst h2; simp
    · rw [decide_eq_false (fun z=>h2 (Prod.mk.inj z).2)]; simp [h2]
  · rw [decide_eq_false (fun z=>h1 (Prod.mk.inj z).1)]; simp [h1]
theorem Room.units2 {k:Nat} {A:Around} (r:Room k A):A.units + 1 < cLine:=by have:=r.un; omega
theorem ps_calm {X:Cx} {st:Stmt} {t:TS} (h:PS X.nox st t):PS X st t:=fun pins s σ H D I hw =>
  wpAny_mono (h pins s σ H D (I.wish _) hw) (fun f s' q=>by
    cases f with
    | next=>obtain ⟨σ',H',I',q⟩:=q; exact ⟨σ',H',I'.unwish,q⟩
    | brk=>obtain ⟨σ',H',I',q⟩:=q; exact ⟨σ',H',I'.unwish,q⟩
    | cont=>obtain ⟨σ',H',I',q⟩:=q; exact ⟨σ',H',I'.unwish,q⟩
    | ret u=>obtain ⟨v,σ',H',I',q⟩:=q; exact ⟨v,σ',H',I'.unwish,q⟩) fun _ _ z=>False.elim z
def lamSc (st:Stmt):Scope:=match defBody st with
  | .Assign _ (.Call _ _ [⟨_,.Lambda _ _ sc _,_⟩] _) _ :: _=>sc
  | _=>defScope st
theorem Fun.okL {P:Program} {w:World} {K:PySem.W.Frag} {mg:Str → Option Value} {base:Heap} {x qual:Str} {st:Stmt} {f:Addr} {fd:FuncData} {N ps:List Str} {k:Nat} {sp:Sp} (F:Fun K x qual st f fd) (S:FnScope N ps (defScope st)) (len:∀ vs H Q E,sp vs H Q E → vs.length = ps.length)
    (hbody:∀ (A:Around) (outer:List Env) (s:Shared) (H:Hp) (vs:List V) (Q:VK) (E:XK),Room k (A.deeper (envOfC qual (defScope st) s.heap.objs.size f fd.code)) → sp vs H Q E →
      ∃ t,PSs (cxOf CX0 P w K mg base N qual (defScope st) f fd.code A outer s H E).nox (defBody st) t ∧ t { nx:=fun _ H'=>Q .non H',rt:=Q } (start N vs) H):FnOk P w K mg base CX0 (k + 1) f fd ps sp:=by
  obtain ⟨oc,od,kV,doc,pm,an,cdv,ct,osl,rfl,lk,hcd⟩:=F.ex
  refine fn_of lk hcd S len fun A outer s H vs Q E hr hsp=>?_
  obtain ⟨t,h,q⟩:=hbody A outer s H vs Q E hr hsp
  exact ⟨t,h.nox,q⟩
end L2
set_option Elab.async false
set_option linter.all false
set_option maxRecDepth 100000
namespace L2
open PySem PySem.Spec PyProof.Rows
theorem law_callT {P:Program} {w:World} {K:PySem.W.Frag} {mg mb:Str → Option Value} {CX:CXT} {k:Nat} {fa a T c:Addr} {oc:Obj} {fs:Array Value} {fd:FuncData} {x:Str} {sp:Sp} {s₁:Shared} {vs:List Value} {ns:List Int}
    (KX:K.In s₁.heap) (hns:s₁.heap.Ns mainGlobals mg) (hb:s₁.heap.Ns builtinsNs mb) (hbb:∀ x:Str,x ≠ "__name__" → mb x = bootBuiltins x) (hlim:s₁.heap.NoLimit) (hg:s₁.gens = #[])
    (ha:s₁.heap.get? a = some { cls:=.type "list", data:=.seq vs.toArray }) (hi:IntsAre vs ns) (hl:ns.length ≤ sizeLine) (hr:Room k callerA)
    (hTb:s₁.heap.get? T = some (PySem.W.tabObj #[])) (hKT:K.lookup T = none) (hc1:K.lookup c = some oc) (hc2:oc.cls = .type "code") (hc3:oc.data = .fields fs) (hc4:fs[11]? = some (.ref T))
    (F:∀ base:Heap,K.In base → base.Ns mainGlobals mg → FnOk P w K mg base CX k fa fd [x] sp) (hbind:∀ (s:Shared) (u:Value),BindsTo s fd ⟨[u],[]⟩ [(x,u)])
    (hsp:∀ H:Hp,SqX K H a (ns.map V.int) → H T = some (.tbl #[]) → sp [.ref a] H (fun v _=>v = .bl true) fun _ _ _=>False)
    (hCX:∀ H e s',CX [] H s₁ (fun _ _ _=>False) e s' → False) :
    codeAny (model P w) callerA (.call (.ref fa) ⟨[.ref a],[]⟩) (fun r s'=>r = .ok (.ret (.bool true)) ∧ OldK s₁.heap s'.heap ∧ s'.os = s₁.os ∧ AllBare s'.gens) s₁:=by
  have rv:=vals_ints hi
  have lenV:=hi.length
  have haT:a ≠ T:=fun z=>by rw [z,hTb] at ha; cases ha
  have core:∀ H:Hp,(∀ b,b ≠ T → H b = none ∨ ∃ o xs,H b = some (.frz o (.lst xs))) → SqX K H a (ns.map V.int) → H T = some (.tbl #[]) → HOk P w H s₁.heap → (∀ b,H b ≠ none → b = a ∨ b = T) → (H a ≠ none → K.lookup a = none) →
      codeAny (model P w) callerA (.call (.ref fa) ⟨[.ref a],[]⟩) (fun r s'=>r = .ok (.ret (.bool true)) ∧ OldK s₁.heap s'.heap ∧ s'.os = s₁.os ∧ AllBare s'.gens) s₁:=by
    intro H hO hS hT hok hA hK
    have base_of:∀ {b:Addr} {o:Obj},s₁.heap.get? b = some o → H b = none → (hidT s₁.heap H).get? b = some o:=fun e n=>hidT_get e n
    have noA:∀ {b:Addr} {o:Obj} {es:Array DictEntry} {ep:Nat},s₁.heap.get? b = some o → o.data = .dict es ep → H b = none:=fun {b o es ep} e d=>by
      cases q:H b with
      | none=>rfl
      | some u =>
        rcases hA b (by rw [q]; simp) with e' | e'
        · subst e'
          rw [ha] at e; cases e
          have d':Data.seq vs.toArray _ = Data.dict es ep:=d
          cases d'
        · subst e'
          rw [hTb] at e; cases e
          have d':Data.fields #[] = Data.dict es ep:=d
          cases d'
    have nsK:∀ {b:Addr} {m:Str → Option Value},s₁.heap.Ns b m → (hidT s₁.heap H).Ns b m:=fun {b m} ⟨o,es,ep,e,d,r⟩=>⟨o,es,ep,base_of e (noA e d),d,r⟩
    have hKb:K.In (hidT s₁.heap H):=fun b o e=>base_of (KX b o e) (by
      cases q:H b with
      | none=>rfl
      | some u =>
        rcases hA b (by rw [q]; simp) with e' | e'
        · subst e'
          rw [hK (by rw [q]; simp)] at e; cases e
        · subst e'
          rw [hKT] at e; cases e)
    have hM:Mod K mg (hidT s₁.heap H):=⟨hKb,nsK hns,⟨mb,nsK hb,hbb⟩,let ⟨mc,h1,h2⟩:=hlim; ⟨mc,nsK h1,h2⟩⟩
    have e0:Env0 P w K mg (hidT s₁.heap H) callerA [] s₁ H:=⟨rfl,hM,fun b o e=>of_hidT e,Nat.le_of_eq (hidT_size _ _),trivial,fun b hb=>absurd (show b ∈ ([]:List Addr) from hb) (by simp),hok,.of_eq hg⟩
    refine codeAny_mono ((F _ hKb (nsK hns)).run callerA [] s₁ H ⟨[.ref a],[]⟩ [.ref a] [.ref a] _ _ hr e0 (hbind s₁ (.ref a)) (.cons rfl .nil) (hsp H hS hT)) fun r s' h=>?_
    cases r with
    | error e=>exact (hCX H e s' h).elim
    | ok fl =>
      cases fl with
      | next=>exact False.elim h
      | brk=>exact False.elim h
      | cont=>exact False.elim h
      | ret u =>
        obtain ⟨v,H',os,bare,un,hok',r',q⟩:=h
        have q':v = .bl true:=q
        subst q'
        obtain rfl:u = Value.bool true:=r'
        have old:∀ b o,s₁.heap.get? b = some o → b ≠ T → s'.heap.get? b = some o:=fun b o e hbT=>by
          cases q:H b with
          | none=>exact un.keep b o e q (by intro z; exact absurd (show b ∈ ([]:List Addr) from z) (by simp)) (by simp)
          | some u =>
            rcases hO b hbT with z | ⟨ob,xs,z⟩
            · rw [q] at z; cases z
            · have z2:=un.frzs b ob _ z
              obtain ⟨e1,_⟩:=hok b _ z
              obtain ⟨e2,_⟩:=hok' b _ z2
              rw [e] at e1; cases e1
              exact e2
        obtain ⟨more,hT'⟩:=un.tbls T _ hT
        have hTn:s'.heap.get? T = some (PySem.W.tabObj (#[] ++ more)):=hok' T _ hT'
        refine ⟨rfl,⟨fun b o e=>?_,fun b o e=>?_⟩,os,bare⟩
        · by_cases hbT:b = T
          · subst hbT
            rw [hTb] at e
            cases e
            exact .inr (.inl ⟨⟨c,oc,fs,KX c oc hc1,hc2,hc3,hc4⟩,rfl,#[],more,rfl,hTn⟩)
          · exact .inl (old b o e hbT)
        · by_cases hbT:b = T
          · subst hbT
            exact ⟨_,hTn⟩
          · exact ⟨o,old b o e hbT⟩
  cases hk:K.lookup a with
  | some o =>
    have e:=KX a o hk
    rw [ha] at e
    cases e
    refine core (fun b=>if b = T then some (.tbl #[]) else none) (fun b n=>.inl (if_neg n)) (.inr ⟨vs.toArray,_,hk,by rw [List.size_toArray,lenV]; exact hl,by simpa using rv⟩) (if_pos rfl) (fun b u z=>?_) (fun b z=>?_) fun z=>absurd (if_neg haT) z
    · by_cases hb:b = T
      · have z':=(if_pos hb).symm.trans z
        cases z'
        subst hb
        exact hTb
      · have z':=(if_neg hb).symm.trans z
        cases z'
    · by_cases hb:b = T
      · exact .inr hb
      · exact absurd (if_neg hb) z
  | none =>
    refine core (fun b=>if b = T then some (.tbl #[]) else if b = a then some (.frz { cls:=.type "list", data:=.seq vs.toArray } (.lst (ns.map V.int))) else none) (fun b n=>?_) (.inl (.inr ⟨{ cls:=.type "list", data:=.seq vs.toArray },(if_neg haT).trans (if_pos rfl)⟩)) (if_pos rfl) (fun b u z=>?_) (fun b z=>?_) fun _=>hk
    · by_cases hb:b = a
      · exact .inr ⟨_,_,(if_neg n).trans (if_pos hb)⟩
      · exact .inl ((if_neg n).trans (if_neg hb))
    · by_cases hbT:b = T
      · have z':=(if_pos hbT).symm.trans z
        cases z'
        subst hbT
        exact hTb
      · by_cases hb:b = a
        · have z':=((if_neg hbT).trans (if_pos hb)).symm.trans z
          cases z'
          subst hb
          exact ⟨ha,by rw [List.length_map]; exact hl,vs,_,rv,ha⟩
        · have z':=((if_neg hbT).trans (if_neg hb)).symm.trans z
          cases z'
    · by_cases hbT:b = T
      · exact .inr hbT
      · by_cases hb:b = a
        · exact .inl hb
        · exact absurd ((if_neg hbT).trans (if_neg hb)) z
theorem in_tail {K:PySem.W.Frag} {T:Addr} {o:Obj} {h:Heap} (hT:K.lookup T = none) (hI:PySem.W.Frag.In ((T,o) :: K) h):K.In h ∧ h.get? T = some o:=by
  refine ⟨fun a u e=>hI a u ?_,hI T o ?_⟩
  · have n:a ≠ T:=fun z=>by rw [z,hT] at e; cases e
    rw [List.lookup_cons,beq_eq_false_iff_ne.mpr n]
    exact e
  · rw [List.lookup_cons,beq_self_eq_true]
theorem walk_ofT {l:PySem.W.OpenLaw} {n k:Nat} {q:Program} {loose:List Str} {XP:(Str → Option Value) → Heap → Prop} {YP:World → Heap → Prop} {d:DefRec} {K:Params → PySem.W.Frag} {CX:World → CXT} {x:Str} {T c:Addr} {α:Type} {sp:PySem.W.Frag → α → Sp}
    (hn:l.most = some n) (hn2:n ≤ sizeLine) (hdf:d.params.defaults = []) (hr:Room k callerA)
    (hY:∀ (w:World) (h:Heap),YP w h → (K w.params).In h ∧ h.get? T = some (PySem.W.tabObj #[])) (hKT:∀ P,(K P).lookup T = none)
    (hcd:∀ P,∃ oc fs,(K P).lookup c = some oc ∧ oc.cls = .type "code" ∧ oc.data = .fields fs ∧ fs[11]? = some (.ref T))
    (F:∀ (w:World) (mg:Str → Option Value) (fa:Addr) (h:Heap),(K w.params).In h → h.Ns mainGlobals mg → mg d.name = some (.ref fa) →
      ∃ (fd:FuncData) (A:α),(∀ (s:Shared) (u:Value),BindsTo s fd ⟨[u],[]⟩ [(x,u)]) ∧ (∀ (H:Hp) (a:Addr) (ns:List Int),ns.length ≤ n → SqX (K w.params) H a (ns.map V.int) → H T = some (.tbl #[]) → sp (K w.params) A [.ref a] H (fun v _=>v = .bl true) fun _ _ _=>False) ∧
        ∀ base:Heap,(K w.params).In base → base.Ns mainGlobals mg → FnOk l.prog w (K w.params) mg base (CX w) k fa fd [x] (sp (K w.params) A))
    (hCX:∀ (w:World) (H:Hp) (s:Shared) (e:Value) (s':Shared),CX w [] H s (fun _ _ _=>False) e s' → False) :
    PySem.W.WalkO q loose XP YP l.row.toRowW d [] (fun f vs=>PySem.call f vs):=by
  refine Att.attach_call hn hdf fun w s₀ s₁ mg mb fa o pm cd doc a vs ns G Y ho hd hcd' hmg hobj hints hlen hg=>?_
  obtain ⟨KX,hT⟩:=hY w _ Y
  obtain ⟨oc,fs,c1,c2,c3,c4⟩:=hcd w.params
  obtain ⟨fd,A,hb,hs,hF⟩:=F w mg fa _ KX G.T.g hmg
  exact law_callT KX G.T.g G.T.b G.T.builtins G.T.nolimit hg hobj hints (Nat.le_trans hlen hn2) hr hT (hKT w.params) c1 c2 c3 c4 hF hb (fun H hS hT=>hs H a ns hlen hS hT) fun H e s'=>hCX w H s₁ e s'
theorem lam_mk {K:PySem.W.Frag} {mg:Str → Option Value} {cd:Value} {c T bm:Addr} {od:Option Addr} {vs:Array Value} {sl bs:Array (Option Value)} {file:Str} {flags text:Int} {tf tg tt:Tok} {inF:Bool}
    (h1:cd = .ref c) (h2:K.lookup c = some ⟨.type "code", od,.fields vs,sl⟩) (h3:vs[11]? = some (.ref T)) (h4:vs.getD 18 .none = .str file tf) (h5:vs.getD 7 .none = .int flags tg) (h6:vs.getD 9 .none = .bool inF) (h7:vs.getD 10 .none = .int text tt) (h8:c ≠ T)
    (h9:mg "__builtins__" = some (.ref bm)) (h10:K.lookup bm = some ⟨.type "module", some builtinsNs,.plain,bs⟩) (h11:bm ≠ builtinsNs ∧ bm ≠ mainGlobals):LamOk K mg cd c T where
  code:=h1
  hd:=fun h KX=>⟨_,vs,file,tf,flags,tg,inF,text,tt,KX c _ h2,rfl,rfl,h3,by rw [Array.getD_eq_getD_getElem?,h3]; rfl,h4,h5,h6,h7,h8⟩
  bm:=⟨bm,_,h9,h11.1,h11.2,h10,rfl,rfl,rfl⟩
end L2
set_option linter.all false
namespace Egz
theorem nat_len:∀ (p:Nat) (l:List Nat),l.Nodup → (∀ x ∈ l,x < p) → l.length ≤ p
  | 0,[],_,_=>Nat.le_refl _
  | 0,x :: l,_,h=>absurd (h x List.mem_cons_self) (Nat.not_lt_zero _)
  | p + 1,l,nd,h=>by
    have h1:=nat_len p (l.erase p) (nd.erase p) fun x hx=>by
      have:=nd.mem_erase_iff.mp hx
      have:=h x this.2
      omega
    by_cases hm:p ∈ l
    · rw [List.length_erase_of_mem hm] at h1
      omega
    · rw [List.erase_of_not_mem hm] at h1
      omega
theorem sub_len {p:Nat} {l:List Int} (nd:l.Nodup) (h:∀ x ∈ l,0 ≤ x ∧ x < p):l.length ≤ p:=by
  have e:(l.map Int.toNat).Nodup:=by
    rw [List.nodup_iff_pairwise_ne] at nd ⊢
    rw [List.pairwise_map]
    refine nd.imp_of_mem fun {a b} ha hb n e=>n ?_
    have:=h a ha
    have:=h b hb
    omega
  have s:(l.map Int.toNat) ⊆ List.range p:=fun x hx=>by
    obtain ⟨y,hy,rfl⟩:=List.mem_map.mp hx
    have:=h y hy
    rw [List.mem_range]
    omega
  have:=nat_len p (l.map Int.toNat) e fun x hx=>List.mem_range.mp (s hx)
  rw [List.length_map] at this
  exact this
theorem all_in {p:Nat} {l:List Int} (nd:l.Nodup) (h:∀ x ∈ l,0 ≤ x ∧ x < p) (hl:l.length = p) {w:Int} (h0:0 ≤ w) (h1:w < p):w ∈ l:=by
  apply Classical.byContradiction
  intro hn
  have:=sub_len (p:=p) (l:=w :: l) (List.nodup_cons.mpr ⟨hn,nd⟩) fun x hx=>by
    rcases List.mem_cons.mp hx with rfl | hx
    · exact ⟨h0,h1⟩
    · exact h x hx
  rw [List.length_cons] at this
  omega
def Pr (p:Int):Prop:=2 ≤ p ∧ ∀ d:Int,2 ≤ d → d < p → ¬ d ∣ p
theorem pr_small {q:Int} {left:Int} (h2:2 ≤ q) (hd:q ∣ left) (hno:∀ d:Int,2 ≤ d → d < q → ¬ d ∣ left):Pr q :=
  ⟨h2,fun d h1 h3 hdq=>hno d h1 h3 (Int.dvd_trans hdq hd)⟩
theorem pr_left {q left:Int} (hl:2 ≤ left) (hq:2 ≤ q) (hsq:left < q * q) (hno:∀ d:Int,2 ≤ d → d < q → ¬ d ∣ left):∀ d:Int,2 ≤ d → d < left → ¬ d ∣ left:=by
  intro d h2 hlt hd
  obtain ⟨e,he⟩:=hd
  have hdq:¬ d < q:=fun z=>hno d h2 z ⟨e,he⟩
  have he2:2 ≤ e:=by
    apply Classical.byContradiction
    intro hn
    have:e ≤ 1:=by omega
    have h3:d * e ≤ d * 1:=Int.mul_le_mul_of_nonneg_left this (by omega)
    omega
  have heq:¬ e < q:=fun z=>hno e he2 z ⟨d,by rw [he,Int.mul_comm]⟩
  have h3:q * q ≤ d * e:=Int.mul_le_mul (by omega) (by omega) (by omega) (by omega)
  omega
theorem pr_gcd {p g:Int} (h:Pr p) (h0:0 < g) (h1:g < p):Int.gcd g p = 1:=by
  apply Classical.byContradiction
  intro hn
  have d1:((Int.gcd g p:Nat):Int) ∣ g:=Int.gcd_dvd_left ..
  have d2:((Int.gcd g p:Nat):Int) ∣ p:=Int.gcd_dvd_right ..
  have hle:=Int.le_of_dvd h0 d1
  have hp:Int.gcd g p ≠ 0:=fun z=>by
    rw [z] at d1
    have:=Int.zero_dvd.mp d1
    omega
  exact h.2 _ (by omega) (by omega) d2
theorem mod_back {a g p:Int}:((a + 1) * g % p - g) % p = a * g % p:=by
  rw [Int.emod_sub_emod,Int.add_mul,Int.one_mul,Int.add_sub_cancel]
theorem mul_inv {w r g p:Int} (h:g * r % p = 1 % p) (h0:0 ≤ w) (h1:w < p):(w * r % p) * g % p = w:=by
  rw [Int.mul_emod,Int.emod_emod,← Int.mul_emod,Int.mul_assoc,Int.mul_comm r g,Int.mul_emod,h,← Int.mul_emod,Int.mul_one,Int.emod_eq_of_lt h0 h1]
theorem sum_zero {α:Type} (l:List α):(l.map fun _=>(0:Int)).sum = 0:=by
  induction l with
  | nil=>rfl
  | cons x l ih=>rw [List.map_cons,List.sum_cons,ih]; rfl
theorem sum_add {α:Type} (f g:α → Int) (l:List α):(l.map fun x=>f x + g x).sum = (l.map f).sum + (l.map g).sum:=by
  induction l with
  | nil=>rfl
  | cons x l ih=>rw [List.map_cons,List.map_cons,List.map_cons,List.sum_cons,List.sum_cons,List.sum_cons,ih]; omega
theorem sum_one (f:Nat → Int) (c:Nat):∀ (l:List Nat),l.Nodup → c ∈ l → (l.map fun i=>if i = c then f i else 0).sum = f c
  | [],_,h=>nomatch h
  | x :: l,nd,h=>by
    rw [List.map_cons,List.sum_cons]
    obtain ⟨n1,n2⟩:=List.nodup_cons.mp nd
    by_cases e:x = c
    · subst e
      have:(l.map fun i=>if i = x then f i else 0) = l.map fun _=>(0:Int):=List.map_congr_left fun i hi=>if_neg fun (z:i = x)=>n1 (z ▸ hi)
      rw [if_pos rfl,this,sum_zero]
      omega
    · rw [if_neg e,sum_one f c l n2 ((List.mem_cons.mp h).elim (fun z=>absurd z.symm e) id)]
      omega
theorem sum_pick (f:Nat → Int) (l:List Nat) (hl:l.Nodup):∀ cs:List Nat,cs.Nodup → (∀ c ∈ cs,c ∈ l) → (l.map fun i=>if i ∈ cs then f i else 0).sum = (cs.map f).sum
  | [],_,_=>by
    have:(l.map fun i=>if i ∈ ([]:List Nat) then f i else 0) = l.map fun _=>(0:Int):=List.map_congr_left fun i _=>if_neg (by simp)
    rw [this,sum_zero]
    rfl
  | c :: cs,nd,h=>by
    obtain ⟨n1,n2⟩:=List.nodup_cons.mp nd
    have e:(l.map fun i=>if i ∈ c :: cs then f i else 0) = l.map fun i=>(if i = c then f i else 0) + (if i ∈ cs then f i else 0):=List.map_congr_left fun i _=>by
      by_cases e1:i = c
      · subst e1
        rw [if_pos List.mem_cons_self,if_pos rfl,if_neg n1]
        omega
      · by_cases e2:i ∈ cs
        · rw [if_pos (List.mem_cons_of_mem _ e2),if_neg e1,if_pos e2]
          omega
        · rw [if_neg (fun z=>(List.mem_cons.mp z).elim e1 e2),if_neg e1,if_neg e2]
          omega
    rw [e,sum_add,sum_one f c l hl (h c List.mem_cons_self),sum_pick f l hl cs n2 fun d hd=>h d (List.mem_cons_of_mem _ hd),List.map_cons,List.sum_cons]
theorem sum_mod {α:Type} (f:α → Int) (p:Int) (l:List α):(l.map f).sum % p = (l.map fun x=>f x % p).sum % p:=by
  induction l with
  | nil=>rfl
  | cons x l ih=>rw [List.map_cons,List.map_cons,List.sum_cons,List.sum_cons,Int.add_emod,ih,← Int.add_emod,← Int.emod_add_emod]
theorem sum_same {α:Type} (f:α → Int) (r:Int) (l:List α) (h:∀ x ∈ l,f x = r):(l.map f).sum = l.length * r:=by
  induction l with
  | nil=>simp
  | cons x l ih =>
    rw [List.map_cons,List.sum_cons,ih fun y hy=>h y (List.mem_cons_of_mem _ hy),h x List.mem_cons_self,List.length_cons]
    rw [Int.natCast_succ,Int.add_mul,Int.one_mul]
    omega
structure Pick (xs:List Int) (p:Nat) (ks:List Nat):Prop where
  nd:ks.Nodup
  lt:∀ k ∈ ks,k < xs.length
  len:ks.length = p
  sum:(ks.map fun k=>xs.getD k 0).sum % (p:Int) = 0
structure Srt (xs:List Int) (p:Nat) (os:List Nat):Prop where
  perm:os.Perm (List.range xs.length)
  srt:os.Pairwise fun i j=>xs.getD i 0 % (p:Int) ≤ xs.getD j 0 % (p:Int)
theorem Srt.nd {xs:List Int} {p:Nat} {os:List Nat} (h:Srt xs p os):os.Nodup:=h.perm.nodup_iff.mpr List.nodup_range
theorem Srt.len {xs:List Int} {p:Nat} {os:List Nat} (h:Srt xs p os):os.length = xs.length:=by rw [h.perm.length_eq,List.length_range]
theorem Srt.lt {xs:List Int} {p:Nat} {os:List Nat} (h:Srt xs p os) {k:Nat} (hk:k ∈ os):k < xs.length:=List.mem_range.mp (h.perm.mem_iff.mp hk)
def rst (xs:List Int) (p:Nat) (os:List Nat) (i:Nat):Int:=xs.getD (os.getD i 0) 0 % (p:Int)
theorem rst_le {xs:List Int} {p:Nat} {os:List Nat} (h:Srt xs p os) {i j:Nat} (hij:i ≤ j) (hj:j < os.length):rst xs p os i ≤ rst xs p os j:=by
  rcases Nat.lt_or_eq_of_le hij with hlt | rfl
  · have:=(List.pairwise_iff_getElem.mp h.srt) i j (by omega) hj hlt
    have e1:os.getD i 0 = os[i]:=by rw [List.getD_eq_getElem?_getD,List.getElem?_eq_getElem (show i < os.length by omega)]; rfl
    have e2:os.getD j 0 = os[j]:=by rw [List.getD_eq_getElem?_getD,List.getElem?_eq_getElem hj]; rfl
    unfold rst
    rw [e1,e2]
    exact this
  · exact Int.le_refl _
theorem pick_same {xs:List Int} {p:Nat} {os:List Nat} (h:Srt xs p os) (hp:1 ≤ p) {low:Nat} (hlow:low + p ≤ os.length) (he:rst xs p os low = rst xs p os (low + p - 1)):Pick xs p ((os.drop low).take p):=by
  have hsub:((os.drop low).take p).Sublist os:=(List.take_sublist ..).trans (List.drop_sublist ..)
  have hl:((os.drop low).take p).length = p:=by rw [List.length_take,List.length_drop]; omega
  refine ⟨h.nd.sublist hsub,fun k hk=>h.lt (hsub.subset hk),hl,?_⟩
  rw [sum_mod,sum_same _ (rst xs p os low) _ fun k hk=>?_,hl,Int.mul_emod_right]
  obtain ⟨i,hi⟩:=List.mem_iff_getElem?.mp hk
  have hip:i < p:=by
    have:=(List.getElem?_eq_some_iff.mp hi).1
    omega
  rw [List.getElem?_take_of_lt hip,List.getElem?_drop] at hi
  have e:xs.getD k 0 % (p:Int) = rst xs p os (low + i):=by
    unfold rst
    rw [List.getD_eq_getElem?_getD (l:=os),hi]
    rfl
  rw [e]
  have h1:=rst_le h (show low ≤ low + i by omega) (by omega)
  have h2:=rst_le h (show low + i ≤ low + p - 1 by omega) (by omega)
  omega
theorem pick_changed {xs:List Int} {p:Nat} {os:List Nat} (h:Srt xs p os) (hp:1 ≤ p) (hl:os.length = 2 * p - 1) {cs:List Nat} (nd:cs.Nodup) (hc:∀ c ∈ cs,1 ≤ c ∧ c < p)
    (hs:(((List.range p).map (rst xs p os)).sum + (cs.map fun c=>rst xs p os (c + p - 1) - rst xs p os c).sum) % (p:Int) = 0) :
    Pick xs p ((List.range p).map fun i=>if i ∈ cs then os.getD (i + p - 1) 0 else os.getD i 0):=by
  have ix:∀ i,i < p → (if i ∈ cs then i + p - 1 else i) < os.length:=fun i hi=>by split <;> omega
  have form:((List.range p).map fun i=>if i ∈ cs then os.getD (i + p - 1) 0 else os.getD i 0) = (List.range p).map fun i=>os.getD (if i ∈ cs then i + p - 1 else i) 0:=List.map_congr_left fun i _=>by split <;> rfl
  rw [form]
  have inj:∀ i j,i < os.length → j < os.length → os.getD i 0 = os.getD j 0 → i = j:=fun i j hi hj e=>by
    rw [List.getD_eq_getElem?_getD,List.getElem?_eq_getElem hi,List.getD_eq_getElem?_getD,List.getElem?_eq_getElem hj] at e
    exact (List.getElem_inj h.nd).mp e
  refine ⟨?_,fun k hk=>?_,by rw [List.length_map,List.length_range],?_⟩
  · rw [List.nodup_iff_pairwise_ne,List.pairwise_map]
    refine (List.nodup_iff_pairwise_ne.mp List.nodup_range).imp_of_mem fun {i j} hi hj hne e=>hne ?_
    have hi:=List.mem_range.mp hi
    have hj:=List.mem_range.mp hj
    have e2:=inj _ _ (ix i hi) (ix j hj) e
    by_cases c1:i ∈ cs <;> by_cases c2:j ∈ cs
    · rw [if_pos c1,if_pos c2] at e2; have:=hc i c1; have:=hc j c2; omega
    · rw [if_pos c1,if_neg c2] at e2; have:=hc i c1; omega
    · rw [if_neg c1,if_pos c2] at e2; have:=hc j c2; omega
    · rw [if_neg c1,if_neg c2] at e2; exact e2
  · obtain ⟨i,hi,rfl⟩:=List.mem_map.mp hk
    have hi:=List.mem_range.mp hi
    have:=ix i hi
    refine h.lt ?_
    rw [List.getD_eq_getElem?_getD,List.getElem?_eq_getElem this]
    exact List.getElem_mem _
  · rw [sum_mod,List.map_map]
    have e:((List.range p).map ((fun k=>xs.getD k 0 % (p:Int)) ∘ fun i=>os.getD (if i ∈ cs then i + p - 1 else i) 0)) = (List.range p).map fun i=>rst xs p os i + (if i ∈ cs then rst xs p os (i + p - 1) - rst xs p os i else 0):=List.map_congr_left fun i hi=>by
      show rst xs p os (if i ∈ cs then i + p - 1 else i) = _
      by_cases c1:i ∈ cs
      · rw [if_pos c1,if_pos c1]; omega
      · rw [if_neg c1,if_neg c1]; omega
    rw [e,sum_add,sum_pick _ _ List.nodup_range cs nd fun c hcc=>List.mem_range.mpr (hc c hcc).2]
    exact hs
structure Rch (p:Nat) (g:Nat → Int) (ks:List Int):Prop where
  nd:ks.Nodup
  rng:∀ k ∈ ks,0 ≤ k ∧ k < p
  z:ks[0]? = some 0
  from_:∀ j k,1 ≤ j → ks[j]? = some k → ∃ i,i < j ∧ ks[i]? = some ((k - g j) % (p:Int))
theorem Rch.start {p:Nat} {g:Nat → Int} (hp:1 ≤ p):Rch p g [0]:=by
  refine ⟨by simp,fun k hk=>?_,rfl,fun j k h1 hj=>?_⟩
  · rw [List.mem_singleton.mp hk]; omega
  · rw [List.getElem?_eq_none (by simp; omega)] at hj
    cases hj
theorem Rch.snoc {p:Nat} {g:Nat → Int} {ks:List Int} (h:Rch p g ks) {k:Int} (hk:k ∉ ks) (h0:0 ≤ k) (h1:k < p) (hf:(k - g ks.length) % (p:Int) ∈ ks):Rch p g (ks ++ [k]):=by
  refine ⟨?_,fun x hx=>?_,?_,fun j x hj hx=>?_⟩
  · rw [List.nodup_append]
    refine ⟨h.nd,by simp,fun a ha b hb e=>hk ?_⟩
    rw [List.mem_singleton.mp hb] at e
    rw [← e]
    exact ha
  · rcases List.mem_append.mp hx with z | z
    · exact h.rng x z
    · rw [List.mem_singleton.mp z]; exact ⟨h0,h1⟩
  · rw [List.getElem?_append_left (List.getElem?_eq_some_iff.mp h.z).1]
    exact h.z
  · by_cases hl:j < ks.length
    · rw [List.getElem?_append_left hl] at hx
      obtain ⟨i,hi,e⟩:=h.from_ j x hj hx
      exact ⟨i,hi,by rw [List.getElem?_append_left (by omega)]; exact e⟩
    · have hj2:j = ks.length:=by
        have:=(List.getElem?_eq_some_iff.mp hx).1
        simp at this
        omega
      subst hj2
      rw [List.getElem?_append_right (Nat.le_refl _),Nat.sub_self] at hx
      cases hx
      obtain ⟨i,hi⟩:=List.mem_iff_getElem?.mp hf
      have:=(List.getElem?_eq_some_iff.mp hi).1
      exact ⟨i,this,by rw [List.getElem?_append_left this]; exact hi⟩
theorem Rch.full {p:Nat} {g:Nat → Int} {ks:List Int} (h:Rch p g ks) (hl:ks.length = p) {w:Int} (h0:0 ≤ w) (h1:w < p):w ∈ ks:=all_in h.nd h.rng hl h0 h1
structure Grp (xs:List Int) (q:Nat) (gs:List (Int × List Nat)):Prop where
  each:∀ g ∈ gs,g.2.length = q ∧ (g.2.map fun k=>xs.getD k 0).sum = (q:Int) * g.1
  nd:(gs.flatMap (·.2)).Nodup
  lt:∀ k ∈ gs.flatMap (·.2),k < xs.length
end Egz
set_option Elab.async false
set_option linter.all false
set_option maxRecDepth 100000
namespace B
theorem ValueError:PySem.bootBuiltins "ValueError" = some (.type "ValueError"):=by decide +kernel
theorem abs:PySem.bootBuiltins "abs" = some (.builtin "abs"):=by decide +kernel
theorem all:PySem.bootBuiltins "all" = some (.builtin "all"):=by decide +kernel
theorem any:PySem.bootBuiltins "any" = some (.builtin "any"):=by decide +kernel
theorem bool:PySem.bootBuiltins "bool" = some (.type "bool"):=by decide +kernel
theorem dict:PySem.bootBuiltins "dict" = some (.type "dict"):=by decide +kernel
theorem enumerate:PySem.bootBuiltins "enumerate" = some (.type "enumerate"):=by decide +kernel
theorem int:PySem.bootBuiltins "int" = some (.type "int"):=by decide +kernel
theorem isinstance:PySem.bootBuiltins "isinstance" = some (.builtin "isinstance"):=by decide +kernel
theorem len:PySem.bootBuiltins "len" = some (.builtin "len"):=by decide +kernel
theorem list:PySem.bootBuiltins "list" = some (.type "list"):=by decide +kernel
theorem range:PySem.bootBuiltins "range" = some (.type "range"):=by decide +kernel
theorem sorted:PySem.bootBuiltins "sorted" = some (.builtin "sorted"):=by decide +kernel
theorem sum:PySem.bootBuiltins "sum" = some (.builtin "sum"):=by decide +kernel
theorem tuple:PySem.bootBuiltins "tuple" = some (.type "tuple"):=by decide +kernel
end B
namespace W05
open PySem L2
def top (i:Nat):Stmt:=PySem.Challenge.pw_wheelrow_k05_sums.main.body.getD i (.Pass ⟨0,0,0,0⟩)
abbrev xiB:Stmt:=top 10
theorem xgZ:FnScope ["value"] ["value"] (defScope xiB):=⟨rfl,rfl,rfl,by decide +kernel,rfl,by decide +kernel,by decide +kernel⟩
abbrev xgW:Stmt:=top 11
theorem xfm:FnScope ["value"] ["value"] (defScope xgW):=⟨rfl,rfl,rfl,by decide +kernel,rfl,by decide +kernel,by decide +kernel⟩
abbrev xd5:Stmt:=top 12
theorem xc7:FnScope ["value"] ["value"] (defScope xd5):=⟨rfl,rfl,rfl,by decide +kernel,rfl,by decide +kernel,by decide +kernel⟩
theorem xa9:CompSc (defScope xd5) { kind:=PySem.ScopeKind.function,names:=[ (PySem.Str.ofString ".0", PySem.NameKind.local),(PySem.Str.ofString "number", PySem.NameKind.local),(PySem.Str.ofString "is_number", PySem.NameKind.globalImplicit)],isGenerator:=false,isCoroutine:=false,more:=[]:PySem.Scope } ["value"] ["number"] [none]:=⟨rfl,by decide +kernel,by decide +kernel,by decide +kernel,rfl,by decide +kernel,by decide +kernel⟩
abbrev xgV:Stmt:=top 13
theorem xfl:FnScope ["part", "number"] ["part", "number"] (defScope xgV):=⟨rfl,rfl,rfl,by decide +kernel,rfl,by decide +kernel,by decide +kernel⟩
abbrev xa5:Stmt:=top 14
theorem xaA:FnScope ["one", "other", "part", "often", "left", "left_often", "whole", "following", "following_often", "other_often"] ["one", "other"] (defScope xa5):=⟨rfl,rfl,rfl,by decide +kernel,rfl,by decide +kernel,by decide +kernel⟩
abbrev xd6:Stmt:=top 15
theorem xc8:FnScope ["number", "turn"] ["number", "turn"] (defScope xd6):=⟨rfl,rfl,rfl,by decide +kernel,rfl,by decide +kernel,by decide +kernel⟩
abbrev xjU:Stmt:=top 17
theorem xiG:FnScope ["numbers", "begins", "last", "total"] ["numbers"] (defScope xjU):=⟨rfl,rfl,rfl,by decide +kernel,rfl,by decide +kernel,by decide +kernel⟩
abbrev xkj:Stmt:=top 18
theorem xjV:FnScope ["numbers", "groups", "prime"] ["numbers"] (defScope xkj):=⟨rfl,rfl,rfl,by decide +kernel,rfl,by decide +kernel,by decide +kernel⟩
theorem xfk:CompSc (defScope xkj) { kind:=PySem.ScopeKind.function,names:=[ (PySem.Str.ofString ".0", PySem.NameKind.local),(PySem.Str.ofString "place", PySem.NameKind.local),(PySem.Str.ofString "number", PySem.NameKind.local)],isGenerator:=false,isCoroutine:=false,more:=[]:PySem.Scope } ["numbers", "groups", "prime"] ["place", "number"] [none,none]:=⟨rfl,by decide +kernel,by decide +kernel,by decide +kernel,rfl,by decide +kernel,by decide +kernel⟩
abbrev xgX:Stmt:=top 19
theorem xfr:FnScope ["count", "primes", "left", "prime"] ["count"] (defScope xgX):=⟨rfl,rfl,rfl,by decide +kernel,rfl,by decide +kernel,by decide +kernel⟩
abbrev xjS:Stmt:=top 20
theorem xiE:FnScope ["groups", "prime", "made", "held", "group", "picks", "taken"] ["groups", "prime"] (defScope xjS):=⟨rfl,rfl,rfl,by decide +kernel,rfl,by decide +kernel,by decide +kernel⟩
theorem xd8:CompSc (defScope xjS) { kind:=PySem.ScopeKind.function,names:=[ (PySem.Str.ofString ".0", PySem.NameKind.local),(PySem.Str.ofString "number", PySem.NameKind.local),(PySem.Str.ofString "places", PySem.NameKind.local)],isGenerator:=false,isCoroutine:=false,more:=[]:PySem.Scope } ["groups", "prime", "made", "held", "group", "picks", "taken"] ["number", "places"] [none,none]:=⟨rfl,by decide +kernel,by decide +kernel,by decide +kernel,rfl,by decide +kernel,by decide +kernel⟩
theorem xd9:CompSc (defScope xjS) { kind:=PySem.ScopeKind.function,names:=[ (PySem.Str.ofString ".0", PySem.NameKind.local),(PySem.Str.ofString "pick", PySem.NameKind.local),(PySem.Str.ofString "held", PySem.NameKind.free)],isGenerator:=false,isCoroutine:=false,more:=[]:PySem.Scope } ["groups", "prime", "made", "held", "group", "picks", "taken"] ["held", "pick"] [some 3,none]:=⟨rfl,by decide +kernel,by decide +kernel,by decide +kernel,rfl,by decide +kernel,by decide +kernel⟩
theorem xea:CompSc (defScope xjS) { kind:=PySem.ScopeKind.function,names:=[(PySem.Str.ofString ".0", PySem.NameKind.local),(PySem.Str.ofString "pick", PySem.NameKind.local)],isGenerator:=false,isCoroutine:=false,more:=[]:PySem.Scope } ["groups", "prime", "made", "held", "group", "picks", "taken"] ["pick"] [none]:=⟨rfl,by decide +kernel,by decide +kernel,by decide +kernel,rfl,by decide +kernel,by decide +kernel⟩
theorem xeb:CompSc (defScope xjS) { kind:=PySem.ScopeKind.function,names:=[ (PySem.Str.ofString ".0", PySem.NameKind.local),(PySem.Str.ofString "place", PySem.NameKind.local),(PySem.Str.ofString "other", PySem.NameKind.local),(PySem.Str.ofString "taken", PySem.NameKind.free)],isGenerator:=false,isCoroutine:=false,more:=[]:PySem.Scope } ["groups", "prime", "made", "held", "group", "picks", "taken"] ["taken", "place", "other"] [some 6,none,none]:=⟨rfl,by decide +kernel,by decide +kernel,by decide +kernel,rfl,by decide +kernel,by decide +kernel⟩
abbrev xiC:Stmt:=top 21
theorem xg0:FnScope ["groups", "prime", "total", "places", "group"] ["groups", "prime"] (defScope xiC):=⟨rfl,rfl,rfl,by decide +kernel,rfl,by decide +kernel,by decide +kernel⟩
abbrev xkk:Stmt:=top 22
theorem xjW:FnScope ["numbers", "prime", "order", "rests", "low", "gains", "wanted", "changed"] ["numbers", "prime"] (defScope xkk):=⟨rfl,rfl,rfl,by decide +kernel,rfl,by decide +kernel,by decide +kernel⟩
theorem xfq:CompSc (defScope xkk) (lamSc xkk) ["numbers", "prime", "order", "rests", "low", "gains", "wanted", "changed"] ["place", "numbers", "prime"] [none,some 0,some 1]:=⟨rfl,by decide +kernel,by decide +kernel,by decide +kernel,rfl,by decide +kernel,by decide +kernel⟩
theorem xfn:CompSc (defScope xkk) { kind:=PySem.ScopeKind.function,names:=[ (PySem.Str.ofString ".0", PySem.NameKind.local),(PySem.Str.ofString "place", PySem.NameKind.local),(PySem.Str.ofString "numbers", PySem.NameKind.free),(PySem.Str.ofString "prime", PySem.NameKind.free)],isGenerator:=false,isCoroutine:=false,more:=[]:PySem.Scope } ["numbers", "prime", "order", "rests", "low", "gains", "wanted", "changed"] ["numbers", "prime", "place"] [some 0,some 1,none]:=⟨rfl,by decide +kernel,by decide +kernel,by decide +kernel,rfl,by decide +kernel,by decide +kernel⟩
theorem xfo:CompSc (defScope xkk) { kind:=PySem.ScopeKind.function,names:=[ (PySem.Str.ofString ".0", PySem.NameKind.local),(PySem.Str.ofString "low", PySem.NameKind.local),(PySem.Str.ofString "prime", PySem.NameKind.free),(PySem.Str.ofString "rests", PySem.NameKind.free)],isGenerator:=false,isCoroutine:=false,more:=[]:PySem.Scope } ["numbers", "prime", "order", "rests", "low", "gains", "wanted", "changed"] ["prime", "rests", "low"] [some 1,some 3,none]:=⟨rfl,by decide +kernel,by decide +kernel,by decide +kernel,rfl,by decide +kernel,by decide +kernel⟩
theorem xfp:CompSc (defScope xkk) { kind:=PySem.ScopeKind.function,names:=[ (PySem.Str.ofString ".0", PySem.NameKind.local),(PySem.Str.ofString "low", PySem.NameKind.local),(PySem.Str.ofString "changed", PySem.NameKind.free),(PySem.Str.ofString "order", PySem.NameKind.free),(PySem.Str.ofString "prime", PySem.NameKind.free)],isGenerator:=false,isCoroutine:=false,more:=[]:PySem.Scope } ["numbers", "prime", "order", "rests", "low", "gains", "wanted", "changed"] ["prime", "order", "changed", "low"] [some 1,some 2,some 7,none]:=⟨rfl,by decide +kernel,by decide +kernel,by decide +kernel,rfl,by decide +kernel,by decide +kernel⟩
abbrev xjR:Stmt:=top 23
theorem xiD:FnScope ["gains", "wanted", "prime", "reached", "changed", "total", "place"] ["gains", "wanted", "prime"] (defScope xjR):=⟨rfl,rfl,rfl,by decide +kernel,rfl,by decide +kernel,by decide +kernel⟩
abbrev xc5:Stmt:=top 24
theorem xb2:FnScope ["gains", "wanted", "prime", "reached", "place"] ["gains", "wanted", "prime"] (defScope xc5):=⟨rfl,rfl,rfl,by decide +kernel,rfl,by decide +kernel,by decide +kernel⟩
abbrev xjT:Stmt:=top 25
theorem xiF:FnScope ["reached", "gain", "wanted", "prime", "inside", "outside", "middle"] ["reached", "gain", "wanted", "prime"] (defScope xjT):=⟨rfl,rfl,rfl,by decide +kernel,rfl,by decide +kernel,by decide +kernel⟩
abbrev xc3:Stmt:=top 27
theorem xb0:FnScope ["_law_script", "_law_k"] ["_law_script", "_law_k"] (defScope xc3):=⟨rfl,rfl,rfl,by decide +kernel,rfl,by decide +kernel,by decide +kernel⟩
abbrev xgU:Stmt:=top 28
theorem xfj:FnScope ["_law_cell", "_law_k", "_law_many", "_law_primes"] ["_law_cell", "_law_k", "_law_many"] (defScope xgU):=⟨rfl,rfl,rfl,by decide +kernel,rfl,by decide +kernel,by decide +kernel⟩
abbrev xiA:Stmt:=top 29
theorem xgY:FnScope ["_law_script", "_law_kind", "_law_by", "_law_most", "_law_found", "_law_k", "_law_number"] ["_law_script"] (defScope xiA):=⟨rfl,rfl,rfl,by decide +kernel,rfl,by decide +kernel,by decide +kernel⟩
abbrev xfi:Stmt:=top 31
theorem xd7:FnScope ["_law_number"] ["_law_number"] (defScope xfi):=⟨rfl,rfl,rfl,by decide +kernel,rfl,by decide +kernel,by decide +kernel⟩
abbrev xc4:Stmt:=top 32
theorem xb1:FnScope ["_law_found"] ["_law_found"] (defScope xc4):=⟨rfl,rfl,rfl,by decide +kernel,rfl,by decide +kernel,by decide +kernel⟩
theorem xaz:CompSc (defScope xc4) { kind:=PySem.ScopeKind.function,names:=[ (PySem.Str.ofString ".0", PySem.NameKind.local),(PySem.Str.ofString "_law_one", PySem.NameKind.local),(PySem.Str.ofString "_law_whole", PySem.NameKind.globalImplicit)],isGenerator:=false,isCoroutine:=false,more:=[]:PySem.Scope } ["_law_found"] ["_law_one"] [none]:=⟨rfl,by decide +kernel,by decide +kernel,by decide +kernel,rfl,by decide +kernel,by decide +kernel⟩
abbrev xbw:Stmt:=top 33
theorem xa8:FnScope ["_law_numbers_here", "_law_found", "_law_first", "_law_last"] ["_law_numbers_here", "_law_found"] (defScope xbw):=⟨rfl,rfl,rfl,by decide +kernel,rfl,by decide +kernel,by decide +kernel⟩
abbrev xd4:Stmt:=top 34
theorem xc6:FnScope ["_law_numbers_here", "_law_found", "_law_last", "_law_place"] ["_law_numbers_here", "_law_found"] (defScope xd4):=⟨rfl,rfl,rfl,by decide +kernel,rfl,by decide +kernel,by decide +kernel⟩
theorem xa7:CompSc (defScope xd4) { kind:=PySem.ScopeKind.function,names:=[ (PySem.Str.ofString ".0", PySem.NameKind.local),(PySem.Str.ofString "_law_place", PySem.NameKind.local),(PySem.Str.ofString "_law_numbers_here", PySem.NameKind.free)],isGenerator:=false,isCoroutine:=false,more:=[]:PySem.Scope } ["_law_numbers_here", "_law_found", "_law_last", "_law_place"] ["_law_numbers_here", "_law_place"] [some 0,none]:=⟨rfl,by decide +kernel,by decide +kernel,by decide +kernel,rfl,by decide +kernel,by decide +kernel⟩
abbrev xbv:Stmt:=top 35
theorem xa6:FnScope ["_law_ask", "_law_numbers_here", "error", "_law_others"] ["_law_ask", "_law_numbers_here"] (defScope xbv):=⟨rfl,rfl,rfl,by decide +kernel,rfl,by decide +kernel,by decide +kernel⟩
abbrev s_law:Stmt:=top 36
theorem xkv:FnScope ["_law_script", "_law_numbers_here", "_law_odd", "_law_some", "_law_handed", "_law_found"] ["_law_script"] (defScope s_law):=⟨rfl,rfl,rfl,by decide +kernel,rfl,by decide +kernel,by decide +kernel⟩
structure Adr where
  xhr:Addr
  xhQ:FuncData
  xfK:Addr
  xf8:FuncData
  xdn:Addr
  xdA:FuncData
  xfJ:Addr
  xf7:FuncData
  xaF:Addr
  xaP:FuncData
  xdo:Addr
  xdB:FuncData
  xi2:Addr
  xjk:FuncData
  xj5:Addr
  xj9:FuncData
  xfL:Addr
  xf9:FuncData
  xi0:Addr
  xji:FuncData
  xhs:Addr
  xhR:FuncData
  xj6:Addr
  xka:FuncData
  xiZ:Addr
  xjh:FuncData
  xce:Addr
  xcx:FuncData
  xi1:Addr
  xjj:FuncData
  xcc:Addr
  xcv:FuncData
  xfI:Addr
  xf6:FuncData
  xhq:Addr
  xhP:FuncData
  xes:Addr
  xeM:FuncData
  xcd:Addr
  xcw:FuncData
  xbi:Addr
  xbm:FuncData
  xdm:Addr
  xdz:FuncData
  xbh:Addr
  xbl:FuncData
  a_law:Addr
  d_law:FuncData
  xfV:Addr
  xhC:Addr
  xeB:Addr
  xhD:Addr
  xi7:Addr
  xhB:Addr
  xi8:Addr
  xbc:Tok
  lc_picked:Addr
  lt_picked:Addr
structure Txt (K:PySem.W.Frag) (mg:Str → Option Value) (A:Adr):Prop where
  xhk:Fun K "is_whole" "is_whole" xiB A.xhr A.xhQ
  xfR:Binds K A.xhQ ["value"] []
  xig:mg "is_whole" = some (.ref A.xhr)
  xh7:PySem.W.keepIn K (.ref A.xhr) = true
  xfC:Fun K "is_number" "is_number" xgW A.xfK A.xf8
  xez:Binds K A.xf8 ["value"] []
  xgF:mg "is_number" = some (.ref A.xfK)
  xgw:PySem.W.keepIn K (.ref A.xfK) = true
  xdh:Fun K "are_numbers" "are_numbers" xd5 A.xdn A.xdA
  xcj:Binds K A.xdA ["value"] []
  xdY:mg "are_numbers" = some (.ref A.xdn)
  xdS:PySem.W.keepIn K (.ref A.xdn) = true
  xfB:Fun K "goes_into" "goes_into" xgV A.xfJ A.xf7
  xey:Binds K A.xf7 ["part", "number"] []
  xgE:mg "goes_into" = some (.ref A.xfJ)
  xgv:PySem.W.keepIn K (.ref A.xfJ) = true
  xaD:Fun K "part_with_times" "part_with_times" xa5 A.xaF A.xaP
  xap:Binds K A.xaP ["one", "other"] []
  xaY:mg "part_with_times" = some (.ref A.xaF)
  xaW:PySem.W.keepIn K (.ref A.xaF) = true
  xdi:Fun K "turned_back" "turned_back" xd6 A.xdo A.xdB
  xck:Binds K A.xdB ["number", "turn"] []
  xdZ:mg "turned_back" = some (.ref A.xdo)
  xdT:PySem.W.keepIn K (.ref A.xdo) = true
  xiU:Fun K "stretch" "stretch" xjU A.xi2 A.xjk
  xhA:Binds K A.xjk ["numbers"] []
  xjI:mg "stretch" = some (.ref A.xi2)
  xjy:PySem.W.keepIn K (.ref A.xi2) = true
  xj1:Fun K "chosen" "chosen" xkj A.xj5 A.xj9
  xi5:Binds K A.xj9 ["numbers"] []
  xkh:mg "chosen" = some (.ref A.xj5)
  xkd:PySem.W.keepIn K (.ref A.xj5) = true
  xfD:Fun K "primes_of" "primes_of" xgX A.xfL A.xf9
  xeA:Binds K A.xf9 ["count"] []
  xgG:mg "primes_of" = some (.ref A.xfL)
  xgx:PySem.W.keepIn K (.ref A.xfL) = true
  xiS:Fun K "grouped" "grouped" xjS A.xi0 A.xji
  xhy:Binds K A.xji ["groups", "prime"] []
  xjG:mg "grouped" = some (.ref A.xi0)
  xjw:PySem.W.keepIn K (.ref A.xi0) = true
  xhl:Fun K "together" "together" xiC A.xhs A.xhR
  xfS:Binds K A.xhR ["groups", "prime"] []
  xih:mg "together" = some (.ref A.xhs)
  xh8:PySem.W.keepIn K (.ref A.xhs) = true
  xj2:Fun K "picked" "picked" xkk A.xj6 A.xka
  xi6:Binds K A.xka ["numbers", "prime"] []
  xki:mg "picked" = some (.ref A.xj6)
  xke:PySem.W.keepIn K (.ref A.xj6) = true
  xiR:Fun K "changes" "changes" xjR A.xiZ A.xjh
  xhx:Binds K A.xjh ["gains", "wanted", "prime"] []
  xjF:mg "changes" = some (.ref A.xiZ)
  xjv:PySem.W.keepIn K (.ref A.xiZ) = true
  xb8:Fun K "reached_sums" "reached_sums" xc5 A.xce A.xcx
  xbC:Binds K A.xcx ["gains", "wanted", "prime"] []
  xcP:mg "reached_sums" = some (.ref A.xce)
  xcJ:PySem.W.keepIn K (.ref A.xce) = true
  xiT:Fun K "new_sum" "new_sum" xjT A.xi1 A.xjj
  xhz:Binds K A.xjj ["reached", "gain", "wanted", "prime"] []
  xjH:mg "new_sum" = some (.ref A.xi1)
  xjx:PySem.W.keepIn K (.ref A.xi1) = true
  xb6:Fun K "_law_cell_at" "_law_cell_at" xc3 A.xcc A.xcv
  xbA:Binds K A.xcv ["_law_script", "_law_k"] []
  xcN:mg "_law_cell_at" = some (.ref A.xcc)
  xcH:PySem.W.keepIn K (.ref A.xcc) = true
  xfA:Fun K "_law_draw" "_law_draw" xgU A.xfI A.xf6
  xex:Binds K A.xf6 ["_law_cell", "_law_k", "_law_many"] []
  xgD:mg "_law_draw" = some (.ref A.xfI)
  xgu:PySem.W.keepIn K (.ref A.xfI) = true
  xhj:Fun K "_law_row" "_law_row" xiA A.xhq A.xhP
  xfQ:Binds K A.xhP ["_law_script"] []
  xif:mg "_law_row" = some (.ref A.xhq)
  xh6:PySem.W.keepIn K (.ref A.xhq) = true
  xep:Fun K "_law_whole" "_law_whole" xfi A.xes A.xeM
  xdr:Binds K A.xeM ["_law_number"] []
  xe0:mg "_law_whole" = some (.ref A.xes)
  xeX:PySem.W.keepIn K (.ref A.xes) = true
  xb7:Fun K "_law_numbers" "_law_numbers" xc4 A.xcd A.xcw
  xbB:Binds K A.xcw ["_law_found"] []
  xcO:mg "_law_numbers" = some (.ref A.xcd)
  xcI:PySem.W.keepIn K (.ref A.xcd) = true
  xbe:Fun K "_law_stretched" "_law_stretched" xbw A.xbi A.xbm
  xaJ:Binds K A.xbm ["_law_numbers_here", "_law_found"] []
  xbu:mg "_law_stretched" = some (.ref A.xbi)
  xbq:PySem.W.keepIn K (.ref A.xbi) = true
  xdg:Fun K "_law_picked" "_law_picked" xd4 A.xdm A.xdz
  xci:Binds K A.xdz ["_law_numbers_here", "_law_found"] []
  xdX:mg "_law_picked" = some (.ref A.xdm)
  xdR:PySem.W.keepIn K (.ref A.xdm) = true
  xbd:Fun K "_law_bad_count" "_law_bad_count" xbv A.xbh A.xbl
  xaI:Binds K A.xbl ["_law_ask", "_law_numbers_here"] []
  xbt:mg "_law_bad_count" = some (.ref A.xbh)
  xbp:PySem.W.keepIn K (.ref A.xbh) = true
  F_law:Fun K "law" "law" s_law A.a_law A.d_law
  xkm:Binds K A.d_law ["_law_script"] []
  m_law:mg "law" = some (.ref A.a_law)
  k_law:PySem.W.keepIn K (.ref A.a_law) = true
  xgC:mg "RestError" = some (.ref A.xfV)
  xid:mg "BadRests" = some (.ref A.xhC)
  xeZ:mg "BadNumbers" = some (.ref A.xeB)
  xie:mg "BadRound" = some (.ref A.xhD)
  xjD:mg "BadRest" = some (.ref A.xi7)
  xic:mg "BadCount" = some (.ref A.xhB)
  xjE:mg "BadText" = some (.ref A.xi8)
  xdF:ExObj K A.xeB
  xdE:ExCls K A.xeB
  xab:PySem.W.exmOne K (.ref A.xeB) (.ref A.xfV) = some true
  xae:PySem.W.kitOne K (.ref A.xeB) (.ref A.xhC) = some false
  xaa:PySem.W.kitOne K (.ref A.xeB) (.ref A.xeB) = some true
  xaf:PySem.W.kitOne K (.ref A.xeB) (.ref A.xhD) = some false
  xag:PySem.W.kitOne K (.ref A.xeB) (.ref A.xi7) = some false
  xad:PySem.W.kitOne K (.ref A.xeB) (.ref A.xhB) = some false
  xah:PySem.W.kitOne K (.ref A.xeB) (.ref A.xi8) = some false
  xdK:PySem.W.kitOne K (.ref A.xeB) (.type "ValueError") = some true
  xgf:ExObj K A.xhB
  xge:ExCls K A.xhB
  xai:PySem.W.exmOne K (.ref A.xhB) (.ref A.xfV) = some true
  xak:PySem.W.kitOne K (.ref A.xhB) (.ref A.xhC) = some false
  xac:PySem.W.kitOne K (.ref A.xhB) (.ref A.xeB) = some false
  xal:PySem.W.kitOne K (.ref A.xhB) (.ref A.xhD) = some false
  xam:PySem.W.kitOne K (.ref A.xhB) (.ref A.xi7) = some false
  xaj:PySem.W.kitOne K (.ref A.xhB) (.ref A.xhB) = some true
  xan:PySem.W.kitOne K (.ref A.xhB) (.ref A.xi8) = some false
  xgl:PySem.W.kitOne K (.ref A.xhB) (.type "ValueError") = some true
  xaT:mg "GREATEST_NUMBER" = some (.int 1000000 A.xbc)
  b_ValueError:mg "ValueError" = none
  b_abs:mg "abs" = none
  b_all:mg "all" = none
  b_any:mg "any" = none
  b_bool:mg "bool" = none
  b_dict:mg "dict" = none
  b_enumerate:mg "enumerate" = none
  b_int:mg "int" = none
  b_isinstance:mg "isinstance" = none
  b_len:mg "len" = none
  b_list:mg "list" = none
  b_range:mg "range" = none
  b_sorted:mg "sorted" = none
  b_sum:mg "sum" = none
  b_tuple:mg "tuple" = none
  lam_picked:LamOk K mg A.xka.code A.lc_picked A.lt_picked
  is_NoneType_int:PySem.W.kitOne K (.type "NoneType") (.type "int") = some false
  is_bool_int:PySem.W.kitOne K (.type "bool") (.type "int") = some true
  is_int_int:PySem.W.kitOne K (.type "int") (.type "int") = some true
  is_str_int:PySem.W.kitOne K (.type "str") (.type "int") = some false
  is_list_int:PySem.W.kitOne K (.type "list") (.type "int") = some false
  is_tuple_int:PySem.W.kitOne K (.type "tuple") (.type "int") = some false
  is_int_bool:PySem.W.kitOne K (.type "int") (.type "bool") = some false
  is_bool_bool:PySem.W.kitOne K (.type "bool") (.type "bool") = some true
  is_NoneType_list:PySem.W.kitOne K (.type "NoneType") (.type "list") = some false
  is_bool_list:PySem.W.kitOne K (.type "bool") (.type "list") = some false
  is_int_list:PySem.W.kitOne K (.type "int") (.type "list") = some false
  is_str_list:PySem.W.kitOne K (.type "str") (.type "list") = some false
  is_list_list:PySem.W.kitOne K (.type "list") (.type "list") = some true
  is_tuple_list:PySem.W.kitOne K (.type "tuple") (.type "list") = some false
  is_NoneType_tuple:PySem.W.kitOne K (.type "NoneType") (.type "tuple") = some false
  is_bool_tuple:PySem.W.kitOne K (.type "bool") (.type "tuple") = some false
  is_int_tuple:PySem.W.kitOne K (.type "int") (.type "tuple") = some false
  is_str_tuple:PySem.W.kitOne K (.type "str") (.type "tuple") = some false
  is_list_tuple:PySem.W.kitOne K (.type "list") (.type "tuple") = some false
  is_tuple_tuple:PySem.W.kitOne K (.type "tuple") (.type "tuple") = some true
end W05
set_option Elab.async false
set_option linter.all false
set_option maxRecDepth 100000
namespace W05
open PySem L2
section
variable {P:Program} {w:World} {K:PySem.W.Frag} {mg:Str → Option Value} {base:Heap} {A:Adr}
def sp_whole_int:Sp:=fun vs H Q _=>∃ i:Int,vs = [.int i] ∧ Q (.bl true) H
theorem xgO (T:Txt K mg A):FnOk P w K mg base CX0 1 A.xhr A.xhQ ["value"] sp_whole_int:=by
  refine T.xhk.ok xgZ (fun vs H Q E h=>?_) (fun cdv Ar outer s H vs Q E hr h=>?_)
  · obtain ⟨i,rfl,_⟩:=h
    rfl
  obtain ⟨i,rfl,q⟩:=h
  refine ⟨_,(@pss_one _ _ _ (@ps_ret _ _ _ _ (@pe_and _ _ _ _ _ _ _ (@pe_callB _ _ _ _ _ _ _ _ _ call_isinst rfl T.b_isinstance B.isinstance (@pa_consN _ _ _ _ _ (@pv _ 0 _ _ (by rfl) (Or.inl rfl) (by decide) (by decide)) (@pa_consN _ _ _ _ _ (@pe_bltn _ _ (.ty "int") _ _ rfl T.b_int B.int rfl (by decide) (by decide)) (@pa_nil _) (by rfl)) (by rfl)) (by decide) (by decide) (by rfl) (by rfl)) (@pe_one _ _ _ _ _ (@pe_not _ _ _ _ (@pe_callB _ _ _ _ _ _ _ _ _ call_isinst rfl T.b_isinstance B.isinstance (@pa_consN _ _ _ _ _ (@pv _ 0 _ _ (by rfl) (Or.inl rfl) (by decide) (by decide)) (@pa_consN _ _ _ _ _ (@pe_bltn _ _ (.ty "bool") _ _ rfl T.b_bool B.bool rfl (by decide) (by decide)) (@pa_nil _) (by rfl)) (by rfl)) (by decide) (by decide) (by rfl) (by rfl))))))),?_⟩
  exact ⟨_,rfl,_,_,_,_,_,rfl,TyOf.int i,rfl,T.is_int_int,_,rfl,iteT ⟨_,rfl,_,_,_,_,_,rfl,TyOf.int i,rfl,T.is_int_bool,_,rfl,q⟩⟩
theorem xfb (T:Txt K mg A):FnOk P w K mg base CX0 1 A.xes A.xeM ["_law_number"] sp_whole_int:=by
  refine T.xep.ok xd7 (fun vs H Q E h=>?_) (fun cdv Ar outer s H vs Q E hr h=>?_)
  · obtain ⟨i,rfl,_⟩:=h
    rfl
  obtain ⟨i,rfl,q⟩:=h
  refine ⟨_,(@pss_one _ _ _ (@ps_ret _ _ _ _ (@pe_and _ _ _ _ _ _ _ (@pe_callB _ _ _ _ _ _ _ _ _ call_isinst rfl T.b_isinstance B.isinstance (@pa_consN _ _ _ _ _ (@pv _ 0 _ _ (by rfl) (Or.inl rfl) (by decide) (by decide)) (@pa_consN _ _ _ _ _ (@pe_bltn _ _ (.ty "int") _ _ rfl T.b_int B.int rfl (by decide) (by decide)) (@pa_nil _) (by rfl)) (by rfl)) (by decide) (by decide) (by rfl) (by rfl)) (@pe_one _ _ _ _ _ (@pe_not _ _ _ _ (@pe_callB _ _ _ _ _ _ _ _ _ call_isinst rfl T.b_isinstance B.isinstance (@pa_consN _ _ _ _ _ (@pv _ 0 _ _ (by rfl) (Or.inl rfl) (by decide) (by decide)) (@pa_consN _ _ _ _ _ (@pe_bltn _ _ (.ty "bool") _ _ rfl T.b_bool B.bool rfl (by decide) (by decide)) (@pa_nil _) (by rfl)) (by rfl)) (by decide) (by decide) (by rfl) (by rfl))))))),?_⟩
  exact ⟨_,rfl,_,_,_,_,_,rfl,TyOf.int i,rfl,T.is_int_int,_,rfl,iteT ⟨_,rfl,_,_,_,_,_,rfl,TyOf.int i,rfl,T.is_int_bool,_,rfl,q⟩⟩
def xfx:Sp:=fun vs H Q _=>∃ i:Int,vs = [.int i] ∧ -1000000 ≤ i ∧ i ≤ 1000000 ∧ Q (.bl true) H
theorem xfa (T:Txt K mg A):FnOk P w K mg base CX0 2 A.xfK A.xf8 ["value"] xfx:=by
  have xhn:=xgO (P:=P) (w:=w) (base:=base) T
  refine T.xfC.ok xfm (fun vs H Q E h=>?_) (fun cdv Ar outer s H vs Q E hr h=>?_)
  · obtain ⟨i,rfl,_⟩:=h
    rfl
  obtain ⟨i,rfl,h1,h2,q⟩:=h
  refine ⟨_,(@pss_one _ _ _ (@ps_ret _ _ _ _ (@pe_and _ _ _ _ _ _ _ (@pe_call _ _ _ _ _ _ _ _ _ _ _ _ _ _ _ _ xhn (hr.mono (by decide)) rfl T.xig T.xh7 T.xfR .nil pass0 (@pa_consN _ _ _ _ _ (@pv _ 0 _ _ (by rfl) (Or.inl rfl) (by decide) (by decide)) (@pa_nil _) (by rfl)) (by decide) (by rfl) (by rfl)) (@pe_one _ _ _ _ _ (@pe_chain _ _ _ _ _ _ _ _ _ _ _ _ op_le op_le (@pe_un _ _ _ _ _ _ un_neg (@pe_glob _ _ (.int 1000000) _ _ rfl T.xaT ⟨_,rfl⟩ (by decide))) (@pv _ 0 _ _ (by rfl) (Or.inl rfl) (by decide) (by decide)) (@pe_glob _ _ (.int 1000000) _ _ rfl T.xaT ⟨_,rfl⟩ (by decide)) (by with_unfolding_all rfl)))))),?_⟩
  refine ⟨_,rfl,i,rfl,_,rfl,iteT ⟨_,rfl,_,rfl,_,_,rfl,rfl,_,rfl,?_⟩⟩
  rw [decT h1]
  refine iteT ⟨_,_,rfl,rfl,?_⟩
  show Q (.bl (decide (i ≤ 1000000))) H
  rw [decT h2]
  exact q
def xfw:Sp:=fun vs H Q _=>∃ p n:Int,vs = [.int p,.int n] ∧ 0 < p ∧ Q (.bl (decide (n % p = 0))) H
theorem xe9 (T:Txt K mg A):FnOk P w K mg base CX0 1 A.xfJ A.xf7 ["part", "number"] xfw:=by
  refine T.xfB.ok xfl (fun vs H Q E h=>?_) (fun cdv Ar outer s H vs Q E hr h=>?_)
  · obtain ⟨p,n,rfl,_⟩:=h
    rfl
  obtain ⟨p,n,rfl,hp,q⟩:=h
  refine ⟨_,(@pss_one _ _ _ (@ps_ret _ _ _ _ (@pe_cmpR _ _ _ _ _ _ _ _ op_eqI (@pe_op _ _ _ _ _ _ _ _ op_mod (@pv _ 1 _ _ (by rfl) (Or.inl rfl) (by decide) (by decide)) (@pv _ 0 _ _ (by rfl) (Or.inl rfl) (by decide) (by decide))) (@pe_int _ _ _ _) (nomark _)))),?_⟩
  exact ⟨_,rfl,_,rfl,_,_,rfl,rfl,hp,_,_,rfl,rfl,q⟩
def NsOk (ns:List Int):Prop:=∀ n ∈ ns,-1000000 ≤ n ∧ n ≤ 1000000
def LstAt (H:Hp) (a:Addr) (ns:List Int):Prop:=H a = some (.lst (ns.map V.int))
theorem LstAt.ints {H:Hp} {a:Addr} {ns:List Int} (h:LstAt H a ns):IntsAt K H a ns:=SqL.of h
theorem Same.lst {H H':Hp} {a:Addr} {ns:List Int} (e:Same H H') (h:LstAt H a ns):LstAt H' a ns:=e _ _ h
def xdc:Sp:=fun vs H Q _=>∃ (a:Addr) (ns:List Int),vs = [.ref a] ∧ LstAt H a ns ∧ NsOk ns ∧ ns.length ≤ 1000 ∧ ∀ H',Same H H' → Q (.bl true) H'
theorem xcW (T:Txt K mg A):FnOk P w K mg base CX0 3 A.xdn A.xdA ["value"] xdc:=by
  have xfG:=xfa (P:=P) (w:=w) (base:=base) T
  refine T.xdh.ok xc7 (fun vs H Q E h=>?_) (fun cdv Ar outer s H vs Q E hr h=>?_)
  · obtain ⟨a,ns,rfl,_⟩:=h
    rfl
  obtain ⟨a,ns,rfl,ha,hO,hlen,q⟩:=h
  refine ⟨_,(@pss_one _ _ _ (@ps_ret _ _ _ _ (@pe_and _ _ _ _ _ _ _ (@pe_callB _ _ _ _ _ _ _ _ _ call_isinst rfl T.b_isinstance B.isinstance (@pa_consN _ _ _ _ _ (@pv _ 0 _ _ (by rfl) (Or.inl rfl) (by decide) (by decide)) (@pa_consN _ _ _ _ _ (@pe_bltn _ _ (.ty "list") _ _ rfl T.b_list B.list rfl (by decide) (by decide)) (@pa_nil _) (by rfl)) (by rfl)) (by decide) (by decide) (by rfl) (by rfl)) (@pe_one _ _ _ _ _ (@pe_callB _ _ _ _ _ _ _ _ _ (call_all rfl) rfl T.b_all B.all (@pa_consN _ _ _ _ _ (@pe_comp0 _ _ (["number"]) ([none]) _ _ _ _ _ _ _ _ xa9 rfl (@pi_list _ _ _ _ (@pv _ 0 _ _ (by rfl) (Or.inl rfl) (by decide) (by decide))) (fun z=>(@pg_name _ _ (0) _ xa9.nd rfl (Or.inl rfl) (by exact .inr rfl))) (sets_name 0) (by decide) (fun z=>(@pe_call _ _ _ _ _ _ _ _ _ _ _ _ _ _ _ _ xfG (hr.mono (by decide)) rfl T.xgF T.xgw T.xez .nil pass0 (@pa_consN _ _ _ _ _ (@pv _ 0 _ _ (by rfl) (by exact .inl rfl) (by decide) (by decide)) (@pa_nil _) (by rfl)) (by decide) (by rfl) (by rfl))) (by intro _; rfl)) (@pa_nil _) (by rfl)) (by decide) (by decide) (by rfl) (by rfl)))))),?_⟩
  refine ⟨_,rfl,_,_,_,_,_,rfl,TyOf.lst ha,rfl,T.is_list_list,_,rfl,iteT ?_⟩
  refine ⟨_,rfl,a,rfl,⟨_,ha.ints⟩,comp_list (K:=K) (a:=a) (xs:=ns.map V.int) (fun i ys H'=>Same H H' ∧ ys = ((ns.take i).map fun _=>true).map V.bl) ⟨Same.refl _,rfl⟩ (by rw [List.length_map]; exact small100 hlen) ?_ ?_ ?_⟩
  · rintro i ys H' hi ⟨hs,rfl⟩
    rw [List.length_map] at hi
    exact ⟨LstAt.ints (hs _ _ ha),by rw [List.length_map,List.length_map,List.length_take]; omega⟩
  · rintro i x ys H' hx ⟨hs,rfl⟩
    obtain ⟨n,hn,rfl⟩:=ints_get hx
    have hb:=hO n (List.mem_of_getElem? hn)
    refine ⟨_,rfl,n,rfl,hb.1,hb.2,hs,?_⟩
    rw [take_snoc hn,List.map_append,List.map_append]
    rfl
  · rintro ys H' ⟨hs,rfl⟩ l hl
    refine ⟨l,(ns.map fun _=>true),rfl,SqL.of (by rw [upd_same,List.length_map,List.take_length]),?_⟩
    have e:(ns.map fun _=>true).all id = true:=by simp
    rw [e]
    exact q _ (hs.trans (same_new hl _))
end
end W05
set_option Elab.async false
set_option linter.all false
set_option maxRecDepth 100000
namespace W05
open PySem L2
section
variable {P:Program} {w:World} {K:PySem.W.Frag} {mg:Str → Option Value} {base:Heap} {A:Adr}
theorem abs_if (i:Int):(if i < 0 then -i else i) = (i.natAbs:Int):=by split <;> omega
def xaC:Sp:=fun vs H Q _=>∃ a b:Int,vs = [.int a,.int b] ∧ (-1000000 ≤ a ∧ a ≤ 1000000) ∧ (-1000000 ≤ b ∧ b ≤ 1000000) ∧
  ∀ (g x y:Int) (t:Addr),Wr.Pwt a b g x y → H t = none → Q (.ref t) (upd H t (.tup [.int g,.int x,.int y]))
set_option maxHeartbeats 1000000 in
theorem xax (T:Txt K mg A):FnOk P w K mg base CX0 1 A.xaF A.xaP ["one", "other"] xaC:=by
  refine T.xaD.ok xaA (fun vs H Q E h=>?_) (fun cdv Ar outer s H vs Q E hr h=>?_)
  · obtain ⟨a,b,rfl,_⟩:=h
    rfl
  obtain ⟨a,b,rfl,ha,hb,q⟩:=h
  refine ⟨_,(@pss_cons _ _ _ _ _ (@ps_set _ _ (2) _ _ _ _ xaA.nd rfl (Or.inl rfl) (@pe_callB _ _ _ _ _ _ _ _ _ call_abs rfl T.b_abs B.abs (@pa_consN _ _ _ _ _ (@pv _ 0 _ _ (by rfl) (Or.inl rfl) (by decide) (by decide)) (@pa_nil _) (by rfl)) (by decide) (by decide) (by rfl) (by rfl)) (by rfl) (Or.inl rfl)) (@pss_cons _ _ _ _ _ (@ps_set _ _ (3) _ _ _ _ xaA.nd rfl (Or.inl rfl) (@pe_int _ _ _ _) (by rfl) (Or.inl rfl)) (@pss_cons _ _ _ _ _ (@ps_set _ _ (4) _ _ _ _ xaA.nd rfl (Or.inl rfl) (@pe_callB _ _ _ _ _ _ _ _ _ call_abs rfl T.b_abs B.abs (@pa_consN _ _ _ _ _ (@pv _ 1 _ _ (by rfl) (Or.inl rfl) (by decide) (by decide)) (@pa_nil _) (by rfl)) (by decide) (by decide) (by rfl) (by rfl)) (by rfl) (Or.inl rfl)) (@pss_cons _ _ _ _ _ (@ps_set _ _ (5) _ _ _ _ xaA.nd rfl (Or.inl rfl) (@pe_int _ _ _ _) (by rfl) (Or.inl rfl)) (@pss_cons _ _ _ _ _ (@ps_while _ _ _ _ _ _ PassesOwn.never (@pt_cmpR _ _ _ _ _ _ _ _ op_neI (@pv _ 4 _ _ (by rfl) (Or.inl rfl) (by decide) (by decide)) (@pe_int _ _ _ _) (nomark _)) (@pss_cons _ _ _ _ _ (@ps_set _ _ (6) _ _ _ _ xaA.nd rfl (Or.inl rfl) (@pe_op _ _ _ _ _ _ _ _ op_fdiv (@pv _ 2 _ _ (by rfl) (Or.inl rfl) (by decide) (by decide)) (@pv _ 4 _ _ (by rfl) (Or.inl rfl) (by decide) (by decide))) (by rfl) (Or.inl rfl)) (@pss_cons _ _ _ _ _ (@ps_set _ _ (7) _ _ _ _ xaA.nd rfl (Or.inl rfl) (@pe_op _ _ _ _ _ _ _ _ op_sub (@pv _ 2 _ _ (by rfl) (Or.inl rfl) (by decide) (by decide)) (@pe_op _ _ _ _ _ _ _ _ op_mul (@pv _ 6 _ _ (by rfl) (Or.inl rfl) (by decide) (by decide)) (@pv _ 4 _ _ (by rfl) (Or.inl rfl) (by decide) (by decide)))) (by rfl) (Or.inl rfl)) (@pss_cons _ _ _ _ _ (@ps_set _ _ (8) _ _ _ _ xaA.nd rfl (Or.inl rfl) (@pe_op _ _ _ _ _ _ _ _ op_sub (@pv _ 3 _ _ (by rfl) (Or.inl rfl) (by decide) (by decide)) (@pe_op _ _ _ _ _ _ _ _ op_mul (@pv _ 6 _ _ (by rfl) (Or.inl rfl) (by decide) (by decide)) (@pv _ 5 _ _ (by rfl) (Or.inl rfl) (by decide) (by decide)))) (by rfl) (Or.inl rfl)) (@pss_cons _ _ _ _ _ (@ps_set _ _ (2) _ _ _ _ xaA.nd rfl (Or.inl rfl) (@pv _ 4 _ _ (by rfl) (Or.inl rfl) (by decide) (by decide)) (by rfl) (Or.inl rfl)) (@pss_cons _ _ _ _ _ (@ps_set _ _ (3) _ _ _ _ xaA.nd rfl (Or.inl rfl) (@pv _ 5 _ _ (by rfl) (Or.inl rfl) (by decide) (by decide)) (by rfl) (Or.inl rfl)) (@pss_cons _ _ _ _ _ (@ps_set _ _ (4) _ _ _ _ xaA.nd rfl (Or.inl rfl) (@pv _ 7 _ _ (by rfl) (Or.inl rfl) (by decide) (by decide)) (by rfl) (Or.inl rfl)) (@pss_one _ _ _ (@ps_set _ _ (5) _ _ _ _ xaA.nd rfl (Or.inl rfl) (@pv _ 8 _ _ (by rfl) (Or.inl rfl) (by decide) (by decide)) (by rfl) (Or.inl rfl)))))))))) (@pss_cons _ _ _ _ _ (@ps_if _ _ _ _ _ _ _ _ (@pt_cmpR _ _ _ _ _ _ _ _ op_lt (@pv _ 0 _ _ (by rfl) (Or.inl rfl) (by decide) (by decide)) (@pe_int _ _ _ _) (nomark _)) (@pss_one _ _ _ (@ps_set _ _ (3) _ _ _ _ xaA.nd rfl (Or.inl rfl) (@pe_un _ _ _ _ _ _ un_neg (@pv _ 3 _ _ (by rfl) (Or.inl rfl) (by decide) (by decide))) (by rfl) (Or.inl rfl))) (@pss_nil _)) (@pss_cons _ _ _ _ _ (@ps_set _ _ (9) _ _ _ _ xaA.nd rfl (Or.inl rfl) (@pe_ifExp _ _ _ _ _ _ _ _ (@pt_cmpR _ _ _ _ _ _ _ _ op_eqI (@pv _ 1 _ _ (by rfl) (Or.inl rfl) (by decide) (by decide)) (@pe_int _ _ _ _) (nomark _)) (@pe_int _ _ _ _) (@pe_op _ _ _ _ _ _ _ _ op_fdivN (@pe_op _ _ _ _ _ _ _ _ op_sub (@pv _ 2 _ _ (by rfl) (Or.inl rfl) (by decide) (by decide)) (@pe_op _ _ _ _ _ _ _ _ op_mul (@pv _ 3 _ _ (by rfl) (Or.inl rfl) (by decide) (by decide)) (@pv _ 0 _ _ (by rfl) (Or.inl rfl) (by decide) (by decide)))) (@pv _ 1 _ _ (by rfl) (Or.inl rfl) (by decide) (by decide)))) (by rfl) (Or.inl rfl)) (@pss_one _ _ _ (@ps_ret _ _ _ _ (@pe_tup _ _ _ _ _ (@pa_consN _ _ _ _ _ (@pv _ 2 _ _ (by rfl) (Or.inl rfl) (by decide) (by decide)) (@pa_consN _ _ _ _ _ (@pv _ 3 _ _ (by rfl) (Or.inl rfl) (by decide) (by decide)) (@pa_consN _ _ _ _ _ (@pv _ 9 _ _ (by rfl) (Or.inl rfl) (by decide) (by decide)) (@pa_nil _) (by rfl)) (by rfl)) (by rfl)))))))))))),?_⟩
  have hA:=Wr.abs_small ha
  have hB:=Wr.abs_small hb
  refine ⟨_,rfl,_,rfl,?_⟩
  rw [abs_if]
  refine ⟨_,rfl,_,rfl,?_⟩
  rw [abs_if]
  refine while_by (fun σ H'=>H' = H ∧ ∃ (p o l lo:Int) (f1 f2 f3 f4:Option V),σ = [some (.int a),some (.int b),some (.int p),some (.int o),some (.int l),some (.int lo),f1,f2,f3,f4] ∧ Wr.EI (a.natAbs:Int) (b.natAbs:Int) p o l lo)
    (fun (σ:St) _=>match σ[4]? with | some (some (V.int l))=>l.toNat | _=>0) ⟨rfl,_,_,_,_,_,_,_,_,rfl,Wr.EI.start hA.1 hB.1 hB.2⟩ ?_ ?_
  · rintro σ H' ⟨rfl,p,o,l,lo,f1,f2,f3,f4,rfl,hI⟩
    refine ⟨_,rfl,_,_,rfl,rfl,_,rfl,?_⟩
    by_cases h0:l = 0
    · subst h0
      refine iteF ?_
      obtain ⟨hP,hn1,hn2⟩:=hI.done ha hb
      refine ⟨_,rfl,_,_,rfl,rfl,_,rfl,?_⟩
      have fin:∀ x:Int,x = (if a < 0 then -o else o) → (∃ v,some (some (V.int b)) = some (some v) ∧ ∃ i j,v = V.int i ∧ V.int 0 = V.int j ∧ ∃ c,V.bl (decide (i = j)) = V.bl c ∧ if c = true then True else True):=fun _ _=>⟨_,rfl,_,_,rfl,rfl,_,rfl,by split <;> trivial⟩
      have oM:=hI.oM
      by_cases h1:a < 0
      · rw [if_pos h1] at hP hn1 hn2
        rw [decT h1]
        refine iteT ⟨_,rfl,_,rfl,?_⟩
        refine ⟨_,rfl,_,_,rfl,rfl,_,rfl,?_⟩
        by_cases h2:b = 0
        · rw [if_pos h2] at hP
          rw [decT h2]
          refine iteT ?_
          exact ⟨_,rfl,_,rfl,_,rfl,(by show 3 ≤ sizeLine; decide),fun t ht=>q _ _ _ t hP ht⟩
        · rw [if_neg h2] at hP
          rw [decF h2]
          refine iteF ?_
          refine ⟨_,rfl,_,rfl,_,rfl,_,_,rfl,rfl,.inl ⟨by omega,by omega⟩,_,_,rfl,rfl,_,rfl,_,_,rfl,rfl,⟨h2,by omega⟩,?_⟩
          exact ⟨_,rfl,_,rfl,_,rfl,(by show 3 ≤ sizeLine; decide),fun t ht=>q _ _ _ t hP ht⟩
      · rw [if_neg h1] at hP hn1 hn2
        rw [decF h1]
        refine iteF ?_
        refine ⟨_,rfl,_,_,rfl,rfl,_,rfl,?_⟩
        by_cases h2:b = 0
        · rw [if_pos h2] at hP
          rw [decT h2]
          refine iteT ?_
          exact ⟨_,rfl,_,rfl,_,rfl,(by show 3 ≤ sizeLine; decide),fun t ht=>q _ _ _ t hP ht⟩
        · rw [if_neg h2] at hP
          rw [decF h2]
          refine iteF ?_
          refine ⟨_,rfl,_,rfl,_,rfl,_,_,rfl,rfl,.inl ⟨by omega,by omega⟩,_,_,rfl,rfl,_,rfl,_,_,rfl,rfl,⟨h2,by omega⟩,?_⟩
          exact ⟨_,rfl,_,rfl,_,rfl,(by show 3 ≤ sizeLine; decide),fun t ht=>q _ _ _ t hP ht⟩
    · rw [decF h0]
      refine iteT ?_
      have l0:=hI.l0
      have lM:=hI.lM
      have loM:=hI.loM
      refine ⟨_,rfl,_,rfl,_,_,rfl,rfl,⟨by omega,by omega⟩,?_⟩
      refine ⟨_,rfl,_,rfl,_,rfl,_,_,rfl,rfl,.inr ⟨by omega,by omega⟩,_,_,rfl,rfl,?_⟩
      refine ⟨_,rfl,_,rfl,_,rfl,_,_,rfl,rfl,.inr ⟨by omega,by omega⟩,_,_,rfl,rfl,?_⟩
      refine ⟨_,rfl,_,rfl,_,rfl,_,rfl,⟨rfl,_,_,_,_,_,_,_,_,rfl,hI.turn hB.2 h0⟩,?_⟩
      show (p - p / l * l).toNat < l.toNat
      have e:p - p / l * l = p % l:=by
        have:=Int.emod_add_mul_ediv p l
        rw [Int.mul_comm] at this
        omega
      rw [e]
      have h1:=Int.emod_nonneg p h0
      have h2:=Int.emod_lt_of_pos p (show 0 < l by omega)
      omega
  · rintro σ H' Q1 Q2 hm ⟨v,e,i,j,e1,e2,k,e3,q⟩
    exact ⟨v,e,i,j,e1,e2,k,e3,hm _ _ q⟩
def xde:Sp:=fun vs H Q _=>∃ a t:Int,vs = [.int a,.int t] ∧ (-1000000 ≤ a ∧ a ≤ 1000000) ∧ (1 ≤ t ∧ t ≤ 1000000) ∧
  ∀ (x y:Int) (H':Hp),Wr.Pwt a t (Int.gcd a t:Int) x y → Same H H' → Q (.int (x % t)) H'
theorem xcZ (T:Txt K mg A):FnOk P w K mg base CX0 2 A.xdo A.xdB ["number", "turn"] xde:=by
  have xaE:=xax (P:=P) (w:=w) (base:=base) T
  refine T.xdi.ok xc8 (fun vs H Q E h=>?_) (fun cdv Ar outer s H vs Q E hr h=>?_)
  · obtain ⟨a,b,rfl,_⟩:=h
    rfl
  obtain ⟨a,b,rfl,ha,hb,q⟩:=h
  refine ⟨_,(@pss_one _ _ _ (@ps_ret _ _ _ _ (@pe_op _ _ _ _ _ _ _ _ op_mod (@pe_ix _ _ _ _ _ _ _ ix_tup (@pe_call _ _ _ _ _ _ _ _ _ _ _ _ _ _ _ _ xaE (hr.mono (by decide)) rfl T.xaY T.xaW T.xap .nil pass0 (@pa_consN _ _ _ _ _ (@pv _ 0 _ _ (by rfl) (Or.inl rfl) (by decide) (by decide)) (@pa_consN _ _ _ _ _ (@pv _ 1 _ _ (by rfl) (Or.inl rfl) (by decide) (by decide)) (@pa_nil _) (by rfl)) (by rfl)) (by decide) (by rfl) (by rfl)) (@pe_int _ _ _ _) (fun _ _=>rfl)) (@pv _ 1 _ _ (by rfl) (Or.inl rfl) (by decide) (by decide))))),?_⟩
  refine ⟨_,rfl,_,rfl,a,b,rfl,ha,⟨by omega,by omega⟩,fun g x y t hP ht=>?_⟩
  refine ⟨t,_,_,_,rfl,rfl,SqT.of upd_same,rfl,_,rfl,_,_,rfl,rfl,(by omega),?_⟩
  have e:=hP.g_
  subst e
  exact q x y _ hP (same_new ht _)
end
end W05
set_option Elab.async false
set_option linter.all false
set_option maxRecDepth 100000
namespace W05
open PySem L2
section
variable {P:Program} {w:World} {K:PySem.W.Frag} {mg:Str → Option Value} {base:Heap} {A:Adr}
def dixF (n:Nat) (ks:List Int):List (Key × V):=(ks.zipIdx n).map fun p=>(Sum.inl p.1,V.int p.2)
abbrev dix (ks:List Int):List (Key × V):=dixF 0 ks
theorem dixF_cons {n:Nat} {k:Int} {ks:List Int}:dixF n (k :: ks) = (Sum.inl k,V.int n) :: dixF (n + 1) ks:=rfl
theorem dixF_app {ks:List Int} {k:Int}:∀ {n:Nat},dixF n (ks ++ [k]) = dixF n ks ++ [(Sum.inl k,V.int (n + ks.length:Nat))]:=by
  induction ks with
  | nil=>intro n; rfl
  | cons x ks ih =>
    intro n
    rw [List.cons_append,dixF_cons,dixF_cons,ih,List.cons_append,List.length_cons]
    rw [show n + 1 + ks.length = n + (ks.length + 1) by omega]
theorem dixF_none {k:Int}:∀ {ks:List Int} {n:Nat},k ∉ ks → valV (dixF n ks) (Sum.inl k) = none
  | [],_,_=>rfl
  | x :: ks,n,h=>by
    rw [dixF_cons,valV_neg (fun z=>h (by cases z; exact List.mem_cons_self))]
    exact dixF_none fun z=>h (List.mem_cons_of_mem _ z)
theorem dixF_some {k:Int}:∀ {ks:List Int} {n j:Nat},ks.Nodup → ks[j]? = some k → valV (dixF n ks) (Sum.inl k) = some (V.int (n + j:Nat))
  | [],_,_,_,h=>by simp at h
  | x :: ks,n,0,_,h=>by
    have h:x = k:=by simpa using h
    rw [dixF_cons,valV_pos (p:=(Sum.inl x,V.int n)) (by rw [h])]
    rfl
  | x :: ks,n,j + 1,nd,h=>by
    have h:ks[j]? = some k:=by simpa using h
    obtain ⟨n1,n2⟩:=List.nodup_cons.mp nd
    rw [dixF_cons,valV_neg (fun z=>n1 (by cases z; exact List.mem_of_getElem? h)),dixF_some n2 h,show n + 1 + j = n + (j + 1) by omega]
theorem dix_put {ks:List Int} {k:Int} (h:k ∉ ks):putK (dix ks) (Sum.inl k) (V.int (ks.length:Nat)) = dix (ks ++ [k]):=by
  show _ = dixF 0 (ks ++ [k])
  rw [putK_new _ (dixF_none h),dixF_app,Nat.zero_add]
theorem dix_len {ks:List Int}:(dix ks).length = ks.length:=by unfold dix dixF; rw [List.length_map,List.length_zipIdx]
def pre (xs:List Int) (j:Nat):Int:=(xs.take j).sum % (xs.length:Int)
theorem pre_snoc {xs:List Int} {j:Nat} {x:Int} (h:xs[j]? = some x):(pre xs j + x) % (xs.length:Int) = pre xs (j + 1):=by
  unfold pre
  rw [Int.emod_add_emod,List.take_add_one,h]
  show _ = (xs.take j ++ [x]).sum % _
  rw [List.sum_append]
  simp
def xiO (A:Adr):Sp:=fun vs H Q E=>∃ (a:Addr) (xs:List Int),vs = [.ref a] ∧ LstAt H a xs ∧ NsOk xs ∧ xs.length ≤ 1000 ∧ (xs = [] → ∀ ea H',Same H H' → H' ea = none → E (.ref A.xhB) (some ea) H') ∧
  (∀ (i j:Nat) b H',i ≤ j → j < xs.length → pre xs i = pre xs (j + 1) → Same H H' → H b = none → H' b = some (.tup [.int i,.int j]) → Q (.ref b) H')
theorem xiu (T:Txt K mg A):FnOk P w K mg base (CXx P w) 4 A.xi2 A.xjk ["numbers"] (xiO A):=by
  have xdk:=xcW (P:=P) (w:=w) (base:=base) T
  refine T.xiU.okx xiG (fun vs H Q E h=>?_) (fun cdv Ar outer s H vs Q E hr h=>?_)
  · obtain ⟨a,xs,rfl,_⟩:=h
    rfl
  obtain ⟨a,xs,rfl,hA,hO,hL,q1,q2⟩:=h
  refine ⟨_,(@pss_cons _ _ _ _ _ (@ps_if _ _ _ _ _ _ _ _ (@pt_not _ _ _ _ (@pt_val _ _ _ (@pe_call _ _ _ _ _ _ _ _ _ _ _ _ _ _ _ _ xdk (hr.mono (by decide)) rfl T.xdY T.xdS T.xcj .nil pass0 (@pa_consN _ _ _ _ _ (@pv _ 0 _ _ (by rfl) (Or.inl rfl) (by decide) (by decide)) (@pa_nil _) (by rfl)) (by decide) (by rfl) (by rfl)) (by intro _; rfl))) (@pss_one _ _ _ (@ps_raise _ _ leaves_cx rfl _ _ _ _ _ _ _ _ rfl T.xeZ T.xdF (by decide))) (@pss_nil _)) (@pss_cons _ _ _ _ _ (@ps_if _ _ _ _ _ _ _ _ (@pt_cmpR _ _ _ _ _ _ _ _ op_eqI (@pe_callB _ _ _ _ _ _ _ _ _ call_len_seq rfl T.b_len B.len (@pa_consN _ _ _ _ _ (@pv _ 0 _ _ (by rfl) (Or.inl rfl) (by decide) (by decide)) (@pa_nil _) (by rfl)) (by decide) (by decide) (by rfl) (by rfl)) (@pe_int _ _ _ _) (nomark _)) (@pss_one _ _ _ (@ps_raise _ _ leaves_cx rfl _ _ _ _ _ _ _ _ rfl T.xic T.xgf (by decide))) (@pss_nil _)) (@pss_cons _ _ _ _ _ (@ps_set _ _ (1) _ _ _ _ xiG.nd rfl (Or.inl rfl) (@pe_disp _ _ _ _ _ (@pps_cons _ _ _ _ _ _ _ _ _ (@pe_int _ _ _ _) (@pe_int _ _ _ _) (@pps_nil _ _)) rfl rfl (List.cons_ne_nil _ _) (Nat.le_of_ble_eq_true rfl)) (by rfl) (Or.inl rfl)) (@pss_cons _ _ _ _ _ (@ps_set _ _ (2) _ _ _ _ xiG.nd rfl (Or.inl rfl) (@pe_int _ _ _ _) (by rfl) (Or.inl rfl)) (@pss_cons _ _ _ _ _ (@ps_set _ _ (3) _ _ _ _ xiG.nd rfl (Or.inl rfl) (@pe_op _ _ _ _ _ _ _ _ op_mod (@pe_ix _ _ _ _ _ _ _ ix_list (@pv _ 0 _ _ (by rfl) (Or.inl rfl) (by decide) (by decide)) (@pe_int _ _ _ _) (fun _ _=>rfl)) (@pe_callB _ _ _ _ _ _ _ _ _ call_len_seq rfl T.b_len B.len (@pa_consN _ _ _ _ _ (@pv _ 0 _ _ (by rfl) (Or.inl rfl) (by decide) (by decide)) (@pa_nil _) (by rfl)) (by decide) (by decide) (by rfl) (by rfl))) (by rfl) (Or.inl rfl)) (@pss_cons _ _ _ _ _ (@ps_calm _ _ _ (@ps_while _ _ _ _ _ _ PassesOwn.never (@pt_cmp _ _ _ _ _ _ (@pc_dnotin _ _ _ _ _ hr.units2 (@pv _ 3 _ _ (by rfl) (Or.inl rfl) (by decide) (by decide)) (@pv _ 1 _ _ (by rfl) (Or.inl rfl) (by decide) (by decide))) (by with_unfolding_all rfl)) (@pss_cons _ _ _ _ _ (@ps_set _ _ (2) _ _ _ _ xiG.nd rfl (Or.inl rfl) (@pe_op _ _ _ _ _ _ _ _ op_add (@pv _ 2 _ _ (by rfl) (Or.inl rfl) (by decide) (by decide)) (@pe_int _ _ _ _)) (by rfl) (Or.inl rfl)) (@pss_cons _ _ _ _ _ (@ps_dput _ _ _ _ _ _ _ _ _ hr.units2 (@pv _ 1 _ _ (by rfl) (Or.inl rfl) (by decide) (by decide)) (@pv _ 3 _ _ (by rfl) (Or.inl rfl) (by decide) (by decide)) (@pv _ 2 _ _ (by rfl) (Or.inl rfl) (by decide) (by decide)) rfl) (@pss_one _ _ _ (@ps_set _ _ (3) _ _ _ _ xiG.nd rfl (Or.inl rfl) (@pe_op _ _ _ _ _ _ _ _ op_mod (@pe_op _ _ _ _ _ _ _ _ op_add (@pv _ 3 _ _ (by rfl) (Or.inl rfl) (by decide) (by decide)) (@pe_ix _ _ _ _ _ _ _ ix_list (@pv _ 0 _ _ (by rfl) (Or.inl rfl) (by decide) (by decide)) (@pv _ 2 _ _ (by rfl) (Or.inl rfl) (by decide) (by decide)) (fun _ _=>rfl))) (@pe_callB _ _ _ _ _ _ _ _ _ call_len_seq rfl T.b_len B.len (@pa_consN _ _ _ _ _ (@pv _ 0 _ _ (by rfl) (Or.inl rfl) (by decide) (by decide)) (@pa_nil _) (by rfl)) (by decide) (by decide) (by rfl) (by rfl))) (by rfl) (Or.inl rfl))))))) (@pss_one _ _ _ (@ps_ret _ _ _ _ (@pe_tup _ _ _ _ _ (@pa_consN _ _ _ _ _ (@pe_dget _ _ _ _ _ _ hr.units2 (@pv _ 1 _ _ (by rfl) (Or.inl rfl) (by decide) (by decide)) (@pv _ 3 _ _ (by rfl) (Or.inl rfl) (by decide) (by decide)) (fun _ _=>rfl)) (@pa_consN _ _ _ _ _ (@pv _ 2 _ _ (by rfl) (Or.inl rfl) (by decide) (by decide)) (@pa_nil _) (by rfl)) (by rfl))))))))))),?_⟩
  refine ⟨_,rfl,a,xs,rfl,hA,hO,hL,fun H1 s1=>⟨_,rfl,iteF ?_⟩⟩
  have hA1:=Same.lst s1 hA
  refine ⟨_,rfl,a,xs.map V.int,rfl,.inl hA1.ints,_,_,rfl,rfl,_,rfl,?_⟩
  by_cases h0:(((xs.map V.int).length:Nat):Int) = 0
  · rw [decT h0]
    exact iteT fun ea he=>q1 (List.eq_nil_of_length_eq_zero (by rw [List.length_map] at h0; omega)) ea H1 s1 he
  rw [decF h0]
  rw [List.length_map] at h0
  have hn:1 ≤ xs.length:=by omega
  refine iteF fun d hd=>⟨upd_same,[(Sum.inl 0,V.int 0)],rfl,(by show 1 ≤ 15; decide),?_⟩
  rw [upd_upd]
  have sd:=same_new hd (.dK (dix [0]))
  have hA2:=Same.lst sd hA1
  obtain ⟨x0,hx0⟩:∃ x,xs[0]? = some x:=⟨_,List.getElem?_eq_getElem (show 0 < xs.length by omega)⟩
  have at_:∀ {i:Nat} {x:Int},xs[i]? = some x → atI (xs.map V.int) (i:Int) = some (.int x):=fun {i x} h=>by
    exact atI_nat (by rw [List.getElem?_map,h]; rfl)
  have ln:∀ {H':Hp},LstAt H' a xs → SqL K H' a (xs.map V.int) ∨ SqT K H' a (xs.map V.int):=fun h=>.inl h.ints
  have hpos:(0:Int) < ((xs.map V.int).length:Nat):=by rw [List.length_map]; omega
  refine ⟨_,rfl,a,_,0,_,rfl,rfl,hA2.ints,at_ hx0,_,rfl,a,_,rfl,ln hA2,_,_,rfl,rfl,hpos,?_⟩
  have e1:x0 % (((xs.map V.int).length:Nat):Int) = pre xs 1:=by
    rw [List.length_map]
    unfold pre
    rw [List.take_add_one,List.take_zero,hx0]
    simp
  dsimp only [gName]
  rw [e1]
  have pr:∀ j,0 ≤ pre xs j ∧ pre xs j < xs.length:=fun j=>⟨Int.emod_nonneg _ (by omega),Int.emod_lt_of_pos _ (by omega)⟩
  have p0:pre xs 0 = 0:=by unfold pre; simp
  refine ⟨fun m σ H'=>∃ last:Nat,σ = [some (.ref a),some (.ref d),some (.int (last:Int)),some (.int (pre xs (last + 1)))] ∧ Same H H' ∧ H' d = some (.dK (dix ((List.range (last + 1)).map (pre xs)))) ∧ ((List.range (last + 1)).map (pre xs)).Nodup ∧ last < xs.length ∧ m = xs.length - last,
    ⟨_,0,rfl,s1.trans sd,by show _ = some (HO.dK (dix [pre xs 0])); rw [p0]; exact upd_same,by simp,by omega,rfl⟩,?_⟩
  rintro m σ H' ⟨last,rfl,sH,hD,nd,hlt,rfl⟩
  have hd0:H d = none:=s1.free hd
  refine ⟨_,rfl,_,rfl,d,_,rfl,DGet.k (k:=Sum.inl (pre xs (last + 1))) hD,_,rfl,?_⟩
  by_cases hm:pre xs (last + 1) ∈ (List.range (last + 1)).map (pre xs)
  · obtain ⟨j,hj⟩:=List.mem_iff_getElem?.mp hm
    have hjl:j < last + 1:=by
      have:=(List.getElem?_eq_some_iff.mp hj).1
      simpa using this
    have hjp:pre xs j = pre xs (last + 1):=by
      rw [List.getElem?_map,List.getElem?_range hjl] at hj
      simpa using hj
    have hv:=dixF_some (n:=0) nd hj
    rw [Nat.zero_add] at hv
    rw [show valV (dix ((List.range (last + 1)).map (pre xs))) (Sum.inl (pre xs (last + 1))) = some (V.int (j:Nat)) from hv]
    refine iteF ⟨_,rfl,_,rfl,d,_,rfl,?_,_,rfl,(by show 2 ≤ sizeLine; decide),fun b hb=>q2 j last b _ (by omega) hlt hjp (sH.trans (same_new hb _)) (sH.free hb) upd_same⟩
    rw [← hv]
    exact DGet.k (k:=Sum.inl (pre xs (last + 1))) hD
  · rw [show valV (dix ((List.range (last + 1)).map (pre xs))) (Sum.inl (pre xs (last + 1))) = none from dixF_none hm]
    have er:(List.range (last + 1 + 1)).map (pre xs) = (List.range (last + 1)).map (pre xs) ++ [pre xs (last + 1)]:=by rw [List.range_succ,List.map_append]; rfl
    have nd2:((List.range (last + 1 + 1)).map (pre xs)).Nodup:=by
      rw [er,List.nodup_append]
      refine ⟨nd,by simp,fun x hx y hy e=>hm ?_⟩
      rw [List.mem_singleton.mp hy] at e
      rw [← e]
      exact hx
    have hl2:=Egz.sub_len (p:=xs.length) nd2 fun x hx=>by
      obtain ⟨j,_,rfl⟩:=List.mem_map.mp hx
      exact pr j
    rw [List.length_map,List.length_range] at hl2
    refine iteT ⟨_,fun σ' H2 h=>⟨xs.length - (last + 1),by omega,h⟩,?_⟩
    obtain ⟨x,hx⟩:∃ x,xs[last + 1]? = some x:=⟨_,List.getElem?_eq_getElem (by omega)⟩
    have hA3:=Same.lst sH hA
    have hda:a ≠ d:=fun z=>by rw [z] at hA; unfold LstAt at hA; rw [hd0] at hA; cases hA
    have hA4:LstAt (upd H' d (.dK (putK (dix ((List.range (last + 1)).map (pre xs))) (Sum.inl (pre xs (last + 1))) (.int ((last:Int) + 1))))) a xs:=by
      unfold LstAt
      rw [upd_ne hda]
      exact hA3
    refine ⟨_,rfl,_,_,rfl,rfl,_,rfl,_,rfl,_,rfl,d,_,rfl,DPut.k (k:=Sum.inl (pre xs (last + 1))) hD (by rw [dix_len,List.length_map,List.length_range]; exact small1000 (by omega)),?_⟩
    refine ⟨_,rfl,_,rfl,_,rfl,a,_,_,_,rfl,rfl,hA4.ints,at_ (i:=last + 1) hx,_,_,rfl,rfl,_,rfl,a,_,rfl,ln hA4,_,_,rfl,rfl,hpos,last + 1,?_,fun b o e=>?_,?_,nd2,by omega,rfl⟩
    · rw [List.length_map]
      dsimp only
      rw [pre_snoc hx]
      rfl
    · rw [upd_ne (ne_of_none e hd0)]
      exact sH b o e
    · rw [upd_same,er,← dix_put hm,List.length_map,List.length_range]
      rfl
end
end W05
set_option Elab.async false
set_option linter.all false
set_option maxRecDepth 100000
namespace W05
open PySem L2
section
variable {P:Program} {w:World} {K:PySem.W.Frag} {mg:Str → Option Value} {base:Heap} {A:Adr}
def prodN:List Nat → Nat
  | []=>1
  | p :: ps=>p * prodN ps
theorem prodN_snoc {ps:List Nat} {p:Nat}:prodN (ps ++ [p]) = prodN ps * p:=by
  induction ps with
  | nil=>show p * 1 = 1 * p; omega
  | cons x ps ih=>show x * prodN (ps ++ [p]) = x * prodN ps * p; rw [ih,Nat.mul_assoc]
def sp_primes:Sp:=fun vs H Q _=>∃ n:Nat,vs = [.int n] ∧ 1 ≤ n ∧ n ≤ 500 ∧ ∀ (l:Addr) (ps:List Nat) H',Same H H' → H l = none → LstAt H' l (ps.map Int.ofNat) → prodN ps = n → (∀ p ∈ ps,Egz.Pr (p:Int)) → ps.length ≤ n → Q (.ref l) H'
theorem prodN_ge {ps:List Nat} (h:∀ p ∈ ps,Egz.Pr (p:Int)):ps.length + 1 ≤ prodN ps:=by
  induction ps with
  | nil=>exact Nat.le_refl _
  | cons x ps ih =>
    have h1:=ih fun p hp=>h p (List.mem_cons_of_mem _ hp)
    have h2:=(h x List.mem_cons_self).1
    show ps.length + 1 + 1 ≤ x * prodN ps
    have h3:2 * prodN ps ≤ x * prodN ps:=Nat.mul_le_mul_right _ (by omega)
    omega
def WPr (n:Nat) (l:Addr) (H:Hp) (m:Nat) (σ:St) (H':Hp):Prop:=∃ (ps:List Nat) (left prime:Nat),σ = [some (.int n),some (.ref l),some (.int left),some (.int prime)] ∧ Same H H' ∧ LstAt H' l (ps.map Int.ofNat) ∧ prodN ps * left = n ∧ 1 ≤ left ∧ 2 ≤ prime ∧ (left = 1 ∨ prime ≤ left) ∧ (∀ d:Int,2 ≤ d → d < prime → ¬ d ∣ (left:Int)) ∧ (∀ p ∈ ps,Egz.Pr (p:Int)) ∧ m = left + (n + 1 - prime)
theorem xfc (T:Txt K mg A):FnOk P w K mg base CX0 2 A.xfL A.xf9 ["count"] sp_primes:=by
  have xfF:=xe9 (P:=P) (w:=w) (base:=base) T
  refine T.xfD.ok xfr (fun vs H Q E h=>?_) (fun cdv Ar outer s H vs Q E hr h=>?_)
  · obtain ⟨n,rfl,_⟩:=h
    rfl
  obtain ⟨n,rfl,hn1,hn2,q⟩:=h
  refine ⟨_,(@pss_cons _ _ _ _ _ (@ps_set _ _ (1) _ _ _ _ xfr.nd rfl (Or.inl rfl) (@pe_lst _ _ _ _ (@pa_nil _)) (by rfl) (Or.inl rfl)) (@pss_cons _ _ _ _ _ (@ps_set _ _ (2) _ _ _ _ xfr.nd rfl (Or.inl rfl) (@pv _ 0 _ _ (by rfl) (Or.inl rfl) (by decide) (by decide)) (by rfl) (Or.inl rfl)) (@pss_cons _ _ _ _ _ (@ps_set _ _ (3) _ _ _ _ xfr.nd rfl (Or.inl rfl) (@pe_int _ _ _ _) (by rfl) (Or.inl rfl)) (@pss_cons _ _ _ _ _ (@ps_while _ _ _ _ _ _ PassesOwn.never (@pt_cmpR _ _ _ _ _ _ _ _ op_gt (@pv _ 2 _ _ (by rfl) (Or.inl rfl) (by decide) (by decide)) (@pe_int _ _ _ _) (nomark _)) (@pss_cons _ _ _ _ _ (@ps_if _ _ _ _ _ _ _ _ (@pt_cmpR _ _ _ _ _ _ _ _ op_gt (@pe_op _ _ _ _ _ _ _ _ op_mul (@pv _ 3 _ _ (by rfl) (Or.inl rfl) (by decide) (by decide)) (@pv _ 3 _ _ (by rfl) (Or.inl rfl) (by decide) (by decide))) (@pv _ 2 _ _ (by rfl) (Or.inl rfl) (by decide) (by decide)) (nomark _)) (@pss_one _ _ _ (@ps_set _ _ (3) _ _ _ _ xfr.nd rfl (Or.inl rfl) (@pv _ 2 _ _ (by rfl) (Or.inl rfl) (by decide) (by decide)) (by rfl) (Or.inl rfl))) (@pss_nil _)) (@pss_one _ _ _ (@ps_if _ _ _ _ _ _ _ _ (@pt_val _ _ _ (@pe_call _ _ _ _ _ _ _ _ _ _ _ _ _ _ _ _ xfF (hr.mono (by decide)) rfl T.xgE T.xgv T.xey .nil pass0 (@pa_consN _ _ _ _ _ (@pv _ 3 _ _ (by rfl) (Or.inl rfl) (by decide) (by decide)) (@pa_consN _ _ _ _ _ (@pv _ 2 _ _ (by rfl) (Or.inl rfl) (by decide) (by decide)) (@pa_nil _) (by rfl)) (by rfl)) (by decide) (by rfl) (by rfl)) (by intro _; rfl)) (@pss_cons _ _ _ _ _ (@ps_expr _ _ _ _ (@pe_bm _ _ _ _ _ _ _ _ _ _ _ _ PySem.F.plainAttrs_list PySem.F.slot_list_append PySem.F.type_list_append mt_append (@pv _ 1 _ _ (by rfl) (Or.inl rfl) (by decide) (by decide)) (@pa_consN _ _ _ _ _ (@pv _ 3 _ _ (by rfl) (Or.inl rfl) (by decide) (by decide)) (@pa_nil _) (by rfl)) (by rfl) (by rfl) (by rfl) (by rfl) (by rfl)) (by rfl)) (@pss_one _ _ _ (@ps_set _ _ (2) _ _ _ _ xfr.nd rfl (Or.inl rfl) (@pe_op _ _ _ _ _ _ _ _ op_fdiv (@pv _ 2 _ _ (by rfl) (Or.inl rfl) (by decide) (by decide)) (@pv _ 3 _ _ (by rfl) (Or.inl rfl) (by decide) (by decide))) (by rfl) (Or.inl rfl)))) (@pss_one _ _ _ (@ps_set _ _ (3) _ _ _ _ xfr.nd rfl (Or.inl rfl) (@pe_op _ _ _ _ _ _ _ _ op_add (@pv _ 3 _ _ (by rfl) (Or.inl rfl) (by decide) (by decide)) (@pe_int _ _ _ _)) (by rfl) (Or.inl rfl))))))) (@pss_one _ _ _ (@ps_ret _ _ _ _ (@pv _ 1 _ _ (by rfl) (Or.inl rfl) (by decide) (by decide)))))))),?_⟩
  refine ⟨(by show 0 ≤ sizeLine; decide),fun l hl=>⟨_,rfl,?_⟩⟩
  refine ⟨WPr n l H,
    ⟨_,[],n,2,rfl,same_new hl _,upd_same,by show 1 * n = n; omega,hn1,by omega,by omega,fun d h1 h2=>by omega,fun p hp=>(by cases hp),rfl⟩,?_⟩
  rintro m σ H' ⟨ps,left,prime,rfl,sH,hL,hpr,hl1,hp2,hor,hno,hP,rfl⟩
  have hle:left ≤ n:=by
    have h3:1 * left ≤ prodN ps * left:=Nat.mul_le_mul_right _ (by have:=prodN_ge hP; omega)
    omega
  refine ⟨_,rfl,_,_,rfl,rfl,_,rfl,?_⟩
  by_cases h1:¬ (1:Int) < (left:Int)
  · rw [decF h1]
    have e1:left = 1:=by omega
    subst e1
    refine iteF ⟨_,rfl,q l ps H' sH hl hL (by omega) hP ?_⟩
    have:=prodN_ge hP
    omega
  have h1:=Classical.not_not.mp h1
  rw [decT h1]
  have hpl:prime ≤ left:=by omega
  have hl0:H l = none:=hl
  have found:∀ pr:Nat,prime ≤ pr → pr ≤ left → (∀ d:Int,2 ≤ d → d < pr → ¬ d ∣ (left:Int)) → (left:Int) % pr = 0 → ∃ m',m' < left + (n + 1 - prime) ∧ WPr n l H m' [some (.int n),some (.ref l),some (.int ((left:Int) / pr)),some (.int pr)] (upd H' l (.lst ((ps.map Int.ofNat).map V.int ++ [V.int pr]))):=fun pr a1 a2 a3 a4=>by
    have a4:left % pr = 0:=by omega
    obtain ⟨e,he⟩:=Nat.dvd_of_mod_eq_zero a4
    have he0:1 ≤ e:=by
      rcases Nat.eq_zero_or_pos e with z | z
      · subst z; omega
      · exact z
    have hdiv:left / pr = e:=by rw [he,Nat.mul_div_cancel_left _ (by omega)]
    have hlt:e < left:=by
      have h3:2 * e ≤ pr * e:=Nat.mul_le_mul_right _ (by omega)
      omega
    have hpd:Egz.Pr (pr:Int):=Egz.pr_small (left:=left) (by omega) ⟨(e:Int),by rw [he,Int.natCast_mul]⟩ a3
    have hno2:∀ d:Int,2 ≤ d → d < pr → ¬ d ∣ (e:Int):=fun d b1 b2 b3=>a3 d b1 b2 (by rw [he,Int.natCast_mul]; exact Int.dvd_mul_of_dvd_right b3)
    refine ⟨e + (n + 1 - pr),by omega,ps ++ [pr],e,pr,?_,fun b o q=>by rw [upd_ne (ne_of_none q hl0)]; exact sH b o q,?_,?_,he0,by omega,?_,hno2,?_,rfl⟩
    · rw [← Int.natCast_ediv,hdiv]
    · unfold LstAt
      rw [upd_same,List.map_append,List.map_append]
      rfl
    · rw [prodN_snoc,Nat.mul_assoc,← he]
      exact hpr
    · rcases Nat.lt_or_ge 1 e with z | z
      · refine .inr ?_
        apply Classical.byContradiction
        intro hn
        exact hno2 e (by omega) (by omega) (Int.dvd_refl _)
      · exact .inl (by omega)
    · intro p hp
      rcases List.mem_append.mp hp with z | z
      · exact hP p z
      · rw [List.mem_singleton.mp z]; exact hpd
  have hlen:(ps.map Int.ofNat).length < 1000:=by
    have h3:=prodN_ge hP
    have h4:prodN ps * 1 ≤ prodN ps * left:=Nat.mul_le_mul_left _ hl1
    rw [List.length_map]
    omega
  refine iteT ⟨fun σ' H2=>∃ m',m' < left + (n + 1 - prime) ∧ WPr n l H m' σ' H2,fun σ' H2 h=>h,?_⟩
  refine ⟨_,rfl,_,rfl,_,_,rfl,rfl,.inl ⟨by omega,by omega⟩,_,rfl,_,_,rfl,rfl,_,rfl,?_⟩
  by_cases hsq:(left:Int) < (prime:Int) * (prime:Int)
  · rw [decT hsq]
    refine iteT ⟨_,rfl,_,rfl,_,rfl,_,_,rfl,by omega,_,rfl,?_⟩
    rw [decT (show (left:Int) % (left:Int) = 0 from Int.emod_self)]
    refine iteT ⟨_,rfl,.inl ⟨rfl,_,hL.ints⟩,_,rfl,_,_,_,rfl,rfl,hL,(by rw [List.length_map]; exact small1000 (Nat.le_of_lt hlen)),_,rfl,_,rfl,_,_,rfl,rfl,⟨by omega,by omega⟩,?_⟩
    exact found left hpl (Nat.le_refl _) (Egz.pr_left (by omega) (by omega) hsq hno) Int.emod_self
  · rw [decF hsq]
    refine iteF ⟨_,rfl,_,rfl,_,_,rfl,by omega,_,rfl,?_⟩
    by_cases hm:(left:Int) % (prime:Int) = 0
    · rw [decT hm]
      refine iteT ⟨_,rfl,.inl ⟨rfl,_,hL.ints⟩,_,rfl,_,_,_,rfl,rfl,hL,(by rw [List.length_map]; exact small1000 (Nat.le_of_lt hlen)),_,rfl,_,rfl,_,_,rfl,rfl,⟨by omega,by omega⟩,?_⟩
      exact found prime (Nat.le_refl _) hpl hno hm
    · rw [decF hm]
      have hnd:¬ (prime:Int) ∣ (left:Int):=fun z=>hm (Int.emod_eq_zero_of_dvd z)
      have hne:prime ≠ left:=fun z=>hnd (by rw [z]; exact Int.dvd_refl _)
      refine iteF ⟨_,rfl,_,_,rfl,rfl,left + (n + 1 - (prime + 1)),by omega,ps,left,prime + 1,rfl,sH,hL,hpr,hl1,by omega,.inr (by omega),fun d b1 b2 b3=>?_,hP,rfl⟩
      by_cases hd:d = (prime:Int)
      · rw [hd] at b3
        exact hnd b3
      · exact hno d b1 (by omega) b3
end
end W05
set_option Elab.async false
set_option linter.all false
set_option maxRecDepth 100000
namespace W05
open PySem L2
section
variable {P:Program} {w:World} {K:PySem.W.Frag} {mg:Str → Option Value} {base:Heap} {A:Adr}
theorem dix_isSome {ks:List Int} (nd:ks.Nodup) (k:Int):(valV (dix ks) (Sum.inl k)).isSome = decide (k ∈ ks):=by
  by_cases h:k ∈ ks
  · obtain ⟨j,hj⟩:=List.mem_iff_getElem?.mp h
    rw [decT h,show valV (dix ks) (Sum.inl k) = _ from dixF_some (n:=0) nd hj]
    rfl
  · rw [decF h,show valV (dix ks) (Sum.inl k) = none from dixF_none h]
    rfl
def xiN:Sp:=fun vs H Q _=>∃ (d:Addr) (ks:List Int) (g w:Int) (p:Nat),vs = [.ref d,.int g,.int w,.int p] ∧ H d = some (.dK (dix ks)) ∧ ks.Nodup ∧ 0 ∈ ks ∧ w ∉ ks ∧ 0 ≤ w ∧ w < p ∧ Egz.Pr (p:Int) ∧ 0 < g ∧ g < p ∧ p ≤ 500 ∧
  ∀ (r:Int) H',Same H H' → r ∉ ks → 0 ≤ r → r < p → (r - g) % (p:Int) ∈ ks → Q (.int r) H'
theorem xit (T:Txt K mg A):FnOk P w K mg base CX0 3 A.xi1 A.xjj ["reached", "gain", "wanted", "prime"] xiN:=by
  have xdl:=xcZ (P:=P) (w:=w) (base:=base) T
  refine T.xiT.ok xiF (fun vs H Q E h=>?_) (fun cdv Ar outer s H vs Q E hr h=>?_)
  · obtain ⟨d,ks,g,w,p,rfl,_⟩:=h
    rfl
  obtain ⟨d,ks,g,w,p,rfl,hD,nd,h0,hw,w0,w1,hP,g0,g1,hp,q⟩:=h
  have hp2:=hP.1
  refine ⟨_,(@pss_cons _ _ _ _ _ (@ps_set _ _ (4) _ _ _ _ xiF.nd rfl (Or.inl rfl) (@pe_int _ _ _ _) (by rfl) (Or.inl rfl)) (@pss_cons _ _ _ _ _ (@ps_set _ _ (5) _ _ _ _ xiF.nd rfl (Or.inl rfl) (@pe_op _ _ _ _ _ _ _ _ op_mod (@pe_op _ _ _ _ _ _ _ _ op_mul (@pv _ 2 _ _ (by rfl) (Or.inl rfl) (by decide) (by decide)) (@pe_call _ _ _ _ _ _ _ _ _ _ _ _ _ _ _ _ xdl (hr.mono (by decide)) rfl T.xdZ T.xdT T.xck .nil pass0 (@pa_consN _ _ _ _ _ (@pv _ 1 _ _ (by rfl) (Or.inl rfl) (by decide) (by decide)) (@pa_consN _ _ _ _ _ (@pv _ 3 _ _ (by rfl) (Or.inl rfl) (by decide) (by decide)) (@pa_nil _) (by rfl)) (by rfl)) (by decide) (by rfl) (by rfl))) (@pv _ 3 _ _ (by rfl) (Or.inl rfl) (by decide) (by decide))) (by rfl) (Or.inl rfl)) (@pss_cons _ _ _ _ _ (@ps_while _ _ _ _ _ _ PassesOwn.never (@pt_cmpR _ _ _ _ _ _ _ _ op_gt (@pe_op _ _ _ _ _ _ _ _ op_sub (@pv _ 5 _ _ (by rfl) (Or.inl rfl) (by decide) (by decide)) (@pv _ 4 _ _ (by rfl) (Or.inl rfl) (by decide) (by decide))) (@pe_int _ _ _ _) (nomark _)) (@pss_cons _ _ _ _ _ (@ps_set _ _ (6) _ _ _ _ xiF.nd rfl (Or.inl rfl) (@pe_op _ _ _ _ _ _ _ _ op_fdiv (@pe_op _ _ _ _ _ _ _ _ op_add (@pv _ 4 _ _ (by rfl) (Or.inl rfl) (by decide) (by decide)) (@pv _ 5 _ _ (by rfl) (Or.inl rfl) (by decide) (by decide))) (@pe_int _ _ _ _)) (by rfl) (Or.inl rfl)) (@pss_one _ _ _ (@ps_if _ _ _ _ _ _ _ _ (@pt_cmp _ _ _ _ _ _ (@pc_din _ _ _ _ _ hr.units2 (@pe_op _ _ _ _ _ _ _ _ op_mod (@pe_op _ _ _ _ _ _ _ _ op_mul (@pv _ 6 _ _ (by rfl) (Or.inl rfl) (by decide) (by decide)) (@pv _ 1 _ _ (by rfl) (Or.inl rfl) (by decide) (by decide))) (@pv _ 3 _ _ (by rfl) (Or.inl rfl) (by decide) (by decide))) (@pv _ 0 _ _ (by rfl) (Or.inl rfl) (by decide) (by decide))) (by with_unfolding_all rfl)) (@pss_one _ _ _ (@ps_set _ _ (4) _ _ _ _ xiF.nd rfl (Or.inl rfl) (@pv _ 6 _ _ (by rfl) (Or.inl rfl) (by decide) (by decide)) (by rfl) (Or.inl rfl))) (@pss_one _ _ _ (@ps_set _ _ (5) _ _ _ _ xiF.nd rfl (Or.inl rfl) (@pv _ 6 _ _ (by rfl) (Or.inl rfl) (by decide) (by decide)) (by rfl) (Or.inl rfl))))))) (@pss_one _ _ _ (@ps_ret _ _ _ _ (@pe_op _ _ _ _ _ _ _ _ op_mod (@pe_op _ _ _ _ _ _ _ _ op_mul (@pv _ 5 _ _ (by rfl) (Or.inl rfl) (by decide) (by decide)) (@pv _ 1 _ _ (by rfl) (Or.inl rfl) (by decide) (by decide))) (@pv _ 3 _ _ (by rfl) (Or.inl rfl) (by decide) (by decide)))))))),?_⟩
  refine ⟨_,rfl,_,rfl,_,rfl,g,p,rfl,by omega,by omega,fun x y H1 hx s1=>⟨_,_,rfl,rfl,.inl ⟨by omega,by omega⟩,_,rfl,_,_,rfl,rfl,by omega,?_⟩⟩
  dsimp only [gName]
  have hinv:(w * (x % (p:Int)) % (p:Int)) * g % (p:Int) = w:=by
    refine Egz.mul_inv ?_ w0 w1
    have e1:=hx.s
    rw [Egz.pr_gcd hP g0 g1] at e1
    have e2:g * x = 1 - (p:Int) * y:=by omega
    rw [Int.mul_emod,Int.emod_emod,← Int.mul_emod,e2,Int.sub_emod,Int.mul_emod_right,Int.sub_zero,Int.emod_emod]
  have ppos:(0:Int) < p:=by omega
  refine ⟨fun m σ H'=>∃ (i o:Int) (mid:Option V),σ = [some (.ref d),some (.int g),some (.int w),some (.int p),some (.int i),some (.int o),mid] ∧ Same H H' ∧ 0 ≤ i ∧ i ≤ o ∧ o < p ∧ i * g % (p:Int) ∈ ks ∧ o * g % (p:Int) ∉ ks ∧ m = (o - i).toNat,
    ⟨_,0,_,none,rfl,s1,by omega,Int.emod_nonneg _ (by omega),Int.emod_lt_of_pos _ ppos,by rw [Int.zero_mul,Int.zero_emod]; exact h0,by rw [hinv]; exact hw,rfl⟩,?_⟩
  rintro m σ H' ⟨i,o,mid,rfl,sH,i0,hio,hop,hi,ho,rfl⟩
  have hD':H' d = some (.dK (dix ks)):=sH _ _ hD
  refine ⟨_,rfl,_,rfl,_,_,rfl,rfl,_,_,rfl,rfl,_,rfl,?_⟩
  by_cases h1:(1:Int) < o - i
  · rw [decT h1]
    refine iteT ⟨_,fun σ' H2 h=>h,?_⟩
    refine ⟨_,rfl,_,rfl,_,_,rfl,rfl,_,_,rfl,rfl,⟨by omega,by omega⟩,?_⟩
    dsimp only [gName]
    refine ⟨_,rfl,_,rfl,_,_,rfl,rfl,.inl ⟨by omega,by omega⟩,_,rfl,_,_,rfl,rfl,ppos,_,rfl,d,_,rfl,DGet.k (k:=Sum.inl ((i + o) / 2 * g % (p:Int))) hD',_,rfl,?_⟩
    rw [dix_isSome nd]
    by_cases hm:(i + o) / 2 * g % (p:Int) ∈ ks
    · rw [decT hm]
      refine iteT ⟨_,rfl,(o - (i + o) / 2).toNat,by omega,_,o,_,rfl,sH,by omega,by omega,hop,hm,ho,rfl⟩
    · rw [decF hm]
      refine iteF ⟨_,rfl,((i + o) / 2 - i).toNat,by omega,i,_,_,rfl,sH,i0,by omega,by omega,hi,hm,rfl⟩
  · rw [decF h1]
    have hne:o ≠ i:=fun z=>ho (z ▸ hi)
    have e:o = i + 1:=by omega
    refine iteF ⟨_,rfl,_,rfl,_,_,rfl,rfl,.inl ⟨by omega,by omega⟩,_,rfl,_,_,rfl,rfl,ppos,?_⟩
    refine q _ H' sH ho (Int.emod_nonneg _ (by omega)) (Int.emod_lt_of_pos _ ppos) ?_
    rw [e,Egz.mod_back]
    exact hi
end
end W05
set_option Elab.async false
set_option linter.all false
set_option maxRecDepth 100000
namespace W05
open PySem L2
section
variable {P:Program} {w:World} {K:PySem.W.Frag} {mg:Str → Option Value} {base:Heap} {A:Adr}
def GnOk (p:Nat) (gs:List Int):Prop:=gs.length = p ∧ ∀ (j:Nat) (g:Int),1 ≤ j → gs[j]? = some g → 0 < g ∧ g < p
def sp_reached:Sp:=fun vs H Q _=>∃ (a:Addr) (gs:List Int) (w:Int) (p:Nat),vs = [.ref a,.int w,.int p] ∧ LstAt H a gs ∧ GnOk p gs ∧ 0 ≤ w ∧ w < p ∧ Egz.Pr (p:Int) ∧ p ≤ 500 ∧
  ∀ (d:Addr) (ks:List Int) H',Same H H' → H d = none → H' d = some (.dK (dix ks)) → Egz.Rch p (fun j=>gs.getD j 0) ks → ks.length ≤ p → w ∈ ks → Q (.ref d) H'
theorem xbW (T:Txt K mg A):FnOk P w K mg base CX0 4 A.xce A.xcx ["gains", "wanted", "prime"] sp_reached:=by
  have xiX:=xit (P:=P) (w:=w) (base:=base) T
  refine T.xb8.ok xb2 (fun vs H Q E h=>?_) (fun cdv Ar outer s H vs Q E hr h=>?_)
  · obtain ⟨a,gs,w,p,rfl,_⟩:=h
    rfl
  obtain ⟨a,gs,w,p,rfl,hA,hG,w0,w1,hP,hp,q⟩:=h
  have hp2:=hP.1
  refine ⟨_,(@pss_cons _ _ _ _ _ (@ps_set _ _ (3) _ _ _ _ xb2.nd rfl (Or.inl rfl) (@pe_disp _ _ _ _ _ (@pps_cons _ _ _ _ _ _ _ _ _ (@pe_int _ _ _ _) (@pe_int _ _ _ _) (@pps_nil _ _)) rfl rfl (List.cons_ne_nil _ _) (Nat.le_of_ble_eq_true rfl)) (by rfl) (Or.inl rfl)) (@pss_cons _ _ _ _ _ (@ps_for _ _ _ _ _ _ _ _ PassesOwn.never rfl (@pi_range2 _ _ _ _ _ _ _ rfl T.b_range (@pa_consN _ _ _ _ _ (@pe_int _ _ _ _) (@pa_consN _ _ _ _ _ (@pv _ 2 _ _ (by rfl) (Or.inl rfl) (by decide) (by decide)) (@pa_nil _) (by rfl)) (by rfl)) (by rfl) (by rfl)) (@pg_name _ _ (4) _ xb2.nd rfl (Or.inl rfl) (Or.inl rfl)) (@pss_cons _ _ _ _ _ (@ps_if _ _ _ _ _ _ _ _ (@pt_cmp _ _ _ _ _ _ (@pc_din _ _ _ _ _ hr.units2 (@pv _ 1 _ _ (by rfl) (Or.inl rfl) (by decide) (by decide)) (@pv _ 3 _ _ (by rfl) (Or.inl rfl) (by decide) (by decide))) (by with_unfolding_all rfl)) (@pss_one _ _ _ (@ps_ret _ _ _ _ (@pv _ 3 _ _ (by rfl) (Or.inl rfl) (by decide) (by decide)))) (@pss_nil _)) (@pss_one _ _ _ (@ps_dput _ _ _ _ _ _ _ _ _ hr.units2 (@pv _ 3 _ _ (by rfl) (Or.inl rfl) (by decide) (by decide)) (@pe_call _ _ _ _ _ _ _ _ _ _ _ _ _ _ _ _ xiX (hr.mono (by decide)) rfl T.xjH T.xjx T.xhz .nil pass0 (@pa_consN _ _ _ _ _ (@pv _ 3 _ _ (by rfl) (Or.inl rfl) (by decide) (by decide)) (@pa_consN _ _ _ _ _ (@pe_ix _ _ _ _ _ _ _ ix_list (@pv _ 0 _ _ (by rfl) (Or.inl rfl) (by decide) (by decide)) (@pv _ 4 _ _ (by rfl) (Or.inl rfl) (by decide) (by decide)) (fun _ _=>rfl)) (@pa_consN _ _ _ _ _ (@pv _ 1 _ _ (by rfl) (Or.inl rfl) (by decide) (by decide)) (@pa_consN _ _ _ _ _ (@pv _ 2 _ _ (by rfl) (Or.inl rfl) (by decide) (by decide)) (@pa_nil _) (by rfl)) (by rfl)) (by rfl)) (by rfl)) (by decide) (by rfl) (by rfl)) (@pv _ 4 _ _ (by rfl) (Or.inl rfl) (by decide) (by decide)) rfl))) (by intro _; rfl)) (@pss_one _ _ _ (@ps_ret _ _ _ _ (@pv _ 3 _ _ (by rfl) (Or.inl rfl) (by decide) (by decide)))))),?_⟩
  refine fun d hd=>⟨upd_same,[(Sum.inl 0,V.int 0)],rfl,(by show 1 ≤ 15; decide),?_⟩
  rw [upd_upd]
  have sd:=same_new hd (.dK (dix [0]))
  dsimp only [gName]
  refine ⟨_,rfl,1,p,rfl,⟨by omega,by omega,by omega,by omega⟩,for_range (fun i σ H'=>∃ (v:Option V) (ks:List Int),σ = [some (.ref a),some (.int w),some (.int p),some (.ref d),v] ∧ Same H H' ∧ H' d = some (.dK (dix ks)) ∧ Egz.Rch p (fun j=>gs.getD j 0) ks ∧ ks.length = i + 1) ⟨none,[0],rfl,sd,upd_same,Egz.Rch.start (by omega),rfl⟩ ?_ ?_⟩
  · rintro i σ H' hi ⟨v,ks,rfl,sH,hD,hR,hlen⟩
    dsimp only [gName]
    refine ⟨_,rfl,_,rfl,d,_,rfl,DGet.k (k:=Sum.inl w) hD,_,rfl,?_⟩
    rw [dix_isSome hR.nd]
    by_cases hm:w ∈ ks
    · rw [decT hm]
      exact iteT ⟨_,rfl,q d ks H' sH hd hD hR (by omega) hm⟩
    · rw [decF hm]
      obtain ⟨g,hg⟩:∃ g,gs[i + 1]? = some g:=⟨_,List.getElem?_eq_getElem (by rw [hG.1]; omega)⟩
      have hgr:=hG.2 (i + 1) g (by omega) hg
      have hgd:gs.getD (i + 1) 0 = g:=by rw [List.getD_eq_getElem?_getD,hg]; rfl
      have hA':=Same.lst sH hA
      have ei:(1:Int) + (i:Int) = ((i + 1:Nat):Int):=by omega
      have hat:atI (gs.map V.int) (1 + (i:Int)) = some (.int g):=by rw [ei]; exact atI_nat (by rw [List.getElem?_map,hg]; rfl)
      refine iteF ⟨_,rfl,_,rfl,_,rfl,_,rfl,_,rfl,a,_,_,_,rfl,rfl,hA'.ints,hat,_,rfl,_,rfl,d,ks,g,w,p,rfl,hD,hR.nd,List.mem_of_getElem? hR.z,hm,w0,w1,hP,hgr.1,hgr.2,hp,fun r H2 s2 hr0 r0 r1 hback=>?_⟩
      have hD2:=s2 _ _ hD
      refine ⟨d,_,rfl,DPut.k (k:=Sum.inl r) hD2 (by rw [dix_len]; exact small1000 (by omega)),_,ks ++ [r],rfl,fun b o e=>?_,?_,hR.snoc hr0 r0 r1 (by rw [hlen,hgd]; exact hback),by rw [List.length_append,hlen]; rfl⟩
      · rw [upd_ne (ne_of_none e hd)]
        exact s2 _ _ (sH b o e)
      · rw [upd_same,← dix_put hr0,hlen,ei]
  · rintro σ H' ⟨v,ks,rfl,sH,hD,hR,hlen⟩
    have hl:ks.length = p:=by omega
    exact ⟨_,rfl,q d ks H' sH hd hD hR (by omega) (hR.full hl w0 w1)⟩
end
end W05
set_option Elab.async false
set_option linter.all false
set_option maxRecDepth 100000
namespace W05
open PySem L2
section
variable {P:Program} {w:World} {K:PySem.W.Frag} {mg:Str → Option Value} {base:Heap} {A:Adr}
def dtr (cs:List Nat):List (Key × V):=cs.map fun (c:Nat)=>(Sum.inl (c:Int),V.bl true)
theorem dtr_len {cs:List Nat}:(dtr cs).length = cs.length:=by unfold dtr; rw [List.length_map]
theorem inl_nat {c k:Nat} (h:(Sum.inl (c:Int):Key) = Sum.inl (k:Int)):c = k:=by
  have z:(c:Int) = k:=Sum.inl.inj h
  omega
theorem dtr_val {k:Nat}:∀ cs:List Nat,(valV (dtr cs) (Sum.inl (k:Int))).isSome = decide (k ∈ cs)
  | []=>by rw [decF (by simp)]; rfl
  | c :: cs=>by
    by_cases e:c = k
    · subst e
      rw [decT List.mem_cons_self]
      show (valV ((Sum.inl (c:Int),V.bl true) :: dtr cs) (Sum.inl (c:Int))).isSome = true
      rw [valV_pos (p:=(Sum.inl (c:Int),V.bl true)) rfl]
      rfl
    · show (valV ((Sum.inl (c:Int),V.bl true) :: dtr cs) (Sum.inl (k:Int))).isSome = _
      rw [valV_neg (fun z=>e (inl_nat z)),dtr_val cs]
      apply decide_eq_decide.mpr
      constructor
      · exact List.mem_cons_of_mem _
      · intro h
        exact (List.mem_cons.mp h).elim (fun z=>absurd z.symm e) id
theorem dtr_none {k:Nat} {cs:List Nat} (h:k ∉ cs):valV (dtr cs) (Sum.inl (k:Int)) = none:=by
  have:=dtr_val (k:=k) cs
  rw [decF h] at this
  exact Option.isNone_iff_eq_none.mp (by rw [← Option.not_isSome,this]; rfl)
theorem dtr_put {k:Nat} {cs:List Nat} (h:k ∉ cs):putK (dtr cs) (Sum.inl (k:Int)) (V.bl true) = dtr (cs ++ [k]):=by
  rw [putK_new _ (dtr_none h)]
  unfold dtr
  rw [List.map_append]
  rfl
theorem mkD_dtr {ks:List Nat} (nd:ks.Nodup):mkD (ks.map fun (k:Nat)=>((k:Int),V.bl true)) = dtr ks:=by
  have h:∀ i,i ≤ ks.length → mkD ((ks.take i).map fun (k:Nat)=>((k:Int),V.bl true)) = dtr (ks.take i):=fun i=>by
    induction i with
    | zero=>intro _; rfl
    | succ i ih =>
      intro hi
      have et:ks.take (i + 1) = ks.take i ++ [ks[i]]:=by rw [List.take_add_one,List.getElem?_eq_getElem (show i < ks.length by omega)]; rfl
      have hn:ks[i] ∉ ks.take i:=by
        have nd2:(ks.take (i + 1)).Nodup:=nd.sublist (List.take_sublist ..)
        rw [et,List.nodup_append] at nd2
        exact fun z=>nd2.2.2 _ z _ (List.mem_singleton.mpr rfl) rfl
      rw [et,List.map_append,← dtr_put hn,← ih (by omega)]
      exact mkD_snoc
  have:=h ks.length (Nat.le_refl _)
  rw [List.take_length] at this
  exact this
def xiL:Sp:=fun vs H Q _=>∃ (a:Addr) (gs:List Int) (w:Int) (p:Nat),vs = [.ref a,.int w,.int p] ∧ LstAt H a gs ∧ GnOk p gs ∧ 0 ≤ w ∧ w < p ∧ Egz.Pr (p:Int) ∧ p ≤ 500 ∧
  ∀ (d:Addr) (cs:List Nat) H',Same H H' → H d = none → H' d = some (.dK (dtr cs)) → cs.Nodup → (∀ c ∈ cs,1 ≤ c ∧ c < p) → (cs.map fun c=>gs.getD c 0).sum % (p:Int) = w → Q (.ref d) H'
theorem xiq (T:Txt K mg A):FnOk P w K mg base CX0 5 A.xiZ A.xjh ["gains", "wanted", "prime"] xiL:=by
  have xcb:=xbW (P:=P) (w:=w) (base:=base) T
  refine T.xiR.ok xiD (fun vs H Q E h=>?_) (fun cdv Ar outer s H vs Q E hr h=>?_)
  · obtain ⟨a,gs,w,p,rfl,_⟩:=h
    rfl
  obtain ⟨a,gs,w,p,rfl,hA,hG,w0,w1,hP,hp,q⟩:=h
  have hp2:=hP.1
  have ppos:(0:Int) < p:=by omega
  refine ⟨_,(@pss_cons _ _ _ _ _ (@ps_set _ _ (3) _ _ _ _ xiD.nd rfl (Or.inl rfl) (@pe_call _ _ _ _ _ _ _ _ _ _ _ _ _ _ _ _ xcb (hr.mono (by decide)) rfl T.xcP T.xcJ T.xbC .nil pass0 (@pa_consN _ _ _ _ _ (@pv _ 0 _ _ (by rfl) (Or.inl rfl) (by decide) (by decide)) (@pa_consN _ _ _ _ _ (@pv _ 1 _ _ (by rfl) (Or.inl rfl) (by decide) (by decide)) (@pa_consN _ _ _ _ _ (@pv _ 2 _ _ (by rfl) (Or.inl rfl) (by decide) (by decide)) (@pa_nil _) (by rfl)) (by rfl)) (by rfl)) (by decide) (by rfl) (by rfl)) (by rfl) (Or.inl rfl)) (@pss_cons _ _ _ _ _ (@ps_set _ _ (4) _ _ _ _ xiD.nd rfl (Or.inl rfl) (@pe_dnewK _ _) (by rfl) (Or.inl rfl)) (@pss_cons _ _ _ _ _ (@ps_set _ _ (5) _ _ _ _ xiD.nd rfl (Or.inl rfl) (@pv _ 1 _ _ (by rfl) (Or.inl rfl) (by decide) (by decide)) (by rfl) (Or.inl rfl)) (@pss_cons _ _ _ _ _ (@ps_while _ _ _ _ _ _ PassesOwn.never (@pt_cmpR _ _ _ _ _ _ _ _ op_neI (@pv _ 5 _ _ (by rfl) (Or.inl rfl) (by decide) (by decide)) (@pe_int _ _ _ _) (nomark _)) (@pss_cons _ _ _ _ _ (@ps_set _ _ (6) _ _ _ _ xiD.nd rfl (Or.inl rfl) (@pe_dget _ _ _ _ _ _ hr.units2 (@pv _ 3 _ _ (by rfl) (Or.inl rfl) (by decide) (by decide)) (@pv _ 5 _ _ (by rfl) (Or.inl rfl) (by decide) (by decide)) (fun _ _=>rfl)) (by rfl) (Or.inl rfl)) (@pss_cons _ _ _ _ _ (@ps_dput _ _ _ _ _ _ _ _ _ hr.units2 (@pv _ 4 _ _ (by rfl) (Or.inl rfl) (by decide) (by decide)) (@pv _ 6 _ _ (by rfl) (Or.inl rfl) (by decide) (by decide)) (@pe_bl _ _ _ _) rfl) (@pss_one _ _ _ (@ps_set _ _ (5) _ _ _ _ xiD.nd rfl (Or.inl rfl) (@pe_op _ _ _ _ _ _ _ _ op_mod (@pe_op _ _ _ _ _ _ _ _ op_sub (@pv _ 5 _ _ (by rfl) (Or.inl rfl) (by decide) (by decide)) (@pe_ix _ _ _ _ _ _ _ ix_list (@pv _ 0 _ _ (by rfl) (Or.inl rfl) (by decide) (by decide)) (@pv _ 6 _ _ (by rfl) (Or.inl rfl) (by decide) (by decide)) (fun _ _=>rfl))) (@pv _ 2 _ _ (by rfl) (Or.inl rfl) (by decide) (by decide))) (by rfl) (Or.inl rfl)))))) (@pss_one _ _ _ (@ps_ret _ _ _ _ (@pv _ 4 _ _ (by rfl) (Or.inl rfl) (by decide) (by decide)))))))),?_⟩
  refine ⟨_,rfl,_,rfl,_,rfl,a,gs,w,p,rfl,hA,hG,w0,w1,hP,hp,fun d ks H1 s1 hd hD hR hlen hw=>?_⟩
  dsimp only [gName]
  refine fun e he=>⟨_,rfl,?_⟩
  dsimp only [gName]
  have he0:H e = none:=s1.free he
  obtain ⟨j0,hj0⟩:=List.mem_iff_getElem?.mp hw
  refine ⟨fun m σ H'=>∃ (t:Int) (v:Option V) (cs:List Nat),σ = [some (.ref a),some (.int w),some (.int p),some (.ref d),some (.ref e),some (.int t),v] ∧ Same H1 H' ∧ H' e = some (.dK (dtr cs)) ∧ cs.Nodup ∧ (∀ c ∈ cs,m < c ∧ c < p) ∧ ks[m]? = some t ∧ (t + (cs.map fun c=>gs.getD c 0).sum) % (p:Int) = w,
    ⟨j0,w,none,[],rfl,same_new he _,upd_same,List.nodup_nil,fun c hc=>(by cases hc),hj0,by show (w + 0) % (p:Int) = w; rw [Int.add_zero]; exact Int.emod_eq_of_lt w0 w1⟩,?_⟩
  rintro m σ H' ⟨t,v,cs,rfl,sH,hE,nd,hc,ht,hs⟩
  have hD':H' d = some (.dK (dix ks)):=sH _ _ hD
  have hml:m < ks.length:=(List.getElem?_eq_some_iff.mp ht).1
  refine ⟨_,rfl,_,_,rfl,rfl,_,rfl,?_⟩
  by_cases h0:t = 0
  · rw [decT h0]
    refine iteF ⟨_,rfl,q e cs H' (s1.trans sH) he0 hE nd (fun c hcc=>⟨by have:=hc c hcc; omega,(hc c hcc).2⟩) ?_⟩
    rw [h0,Int.zero_add] at hs
    exact hs
  · rw [decF h0]
    have hm1:1 ≤ m:=by
      rcases Nat.eq_zero_or_pos m with z | z
      · subst z
        rw [hR.z] at ht
        cases ht
        exact absurd rfl h0
      · exact z
    have hv:=dixF_some (n:=0) hR.nd ht
    rw [Nat.zero_add] at hv
    obtain ⟨g,hg⟩:∃ g,gs[m]? = some g:=⟨_,List.getElem?_eq_getElem (by rw [hG.1]; omega)⟩
    have hgd:gs.getD m 0 = g:=by rw [List.getD_eq_getElem?_getD,hg]; rfl
    obtain ⟨i,hi,hki⟩:=hR.from_ m t hm1 ht
    rw [hgd] at hki
    have hmn:m ∉ cs:=fun z=>absurd (hc m z).1 (Nat.lt_irrefl _)
    have hA':=Same.lst (s1.trans sH) hA
    have hae:a ≠ e:=ne_of_none hA he0
    have hA2:LstAt (upd H' e (.dK (putK (dtr cs) (Sum.inl (m:Int)) (.bl true)))) a gs:=by
      unfold LstAt
      rw [upd_ne hae]
      exact hA'
    have hget:DGet H' d (.int t) (some (.int (m:Nat))):=by
      rw [← hv]
      exact DGet.k (k:=Sum.inl t) hD'
    refine iteT ⟨_,fun σ' H2 h=>⟨i,hi,h⟩,?_⟩
    refine ⟨_,rfl,_,rfl,d,_,rfl,hget,?_⟩
    dsimp only [gName]
    refine ⟨_,rfl,_,rfl,e,_,rfl,DPut.k (k:=Sum.inl (m:Int)) hE (by rw [dtr_len]; exact small1000 (by have:=Egz.nat_len p cs nd (fun c hcc=>(hc c hcc).2); omega)),_,rfl,_,rfl,_,rfl,a,_,_,_,rfl,rfl,hA2.ints,atI_nat (by rw [List.getElem?_map,hg]; rfl),_,_,rfl,rfl,_,rfl,_,_,rfl,rfl,ppos,_,_,cs ++ [m],rfl,fun b o q=>?_,?_,?_,?_,hki,?_⟩
    · rw [upd_ne (ne_of_none q he)]
      exact sH b o q
    · rw [upd_same,dtr_put hmn]
    · rw [List.nodup_append]
      exact ⟨nd,by simp,fun x hx y hy z=>hmn (by rw [List.mem_singleton.mp hy] at z; rw [← z]; exact hx)⟩
    · intro c hcc
      rcases List.mem_append.mp hcc with z | z
      · have:=hc c z
        omega
      · rw [List.mem_singleton.mp z]
        omega
    · rw [List.map_append,List.sum_append,Int.emod_add_emod]
      rw [← hs]
      congr 1
      show t - g + ((cs.map fun c=>gs.getD c 0).sum + (gs.getD m 0 + 0)) = _
      rw [hgd]
      omega
end
end W05
set_option Elab.async false
set_option linter.all false
set_option maxRecDepth 100000
namespace W05
open PySem L2
section
variable {P:Program} {w:World} {K:PySem.W.Frag} {mg:Str → Option Value} {base:Heap} {A:Adr}
abbrev Tb (A:Adr) (H:Hp):Prop:=TabOk H A.lt_picked { line:=100,col:=44,endLine:=100,endCol:=80 } ((PyProof.Rows.envOfC "picked" (defScope xkk) 0 0 .none).qual ++ "<lambda>")
theorem Tb.ne {A:Adr} {H:Hp} {b:Addr} {o:HO} (h:Tb A H) (e:H b = some o) (n:∀ ps,o ≠ .tbl ps):b ≠ A.lt_picked:=fun z=>by
  subst z
  rcases h with h | ⟨c,h,_⟩
  · rw [h] at e; cases e; exact n _ rfl
  · rw [h] at e; cases e; exact n _ rfl
theorem Tb.lst {A:Adr} {H H':Hp} {b:Addr} {xs:List V} (h:Tb A H) (s:SameT A.lt_picked H H') (e:H b = some (.lst xs)):H' b = some (.lst xs):=s b _ (h.ne e (fun _=>HO.noConfusion)) e
theorem Tb.tup {A:Adr} {H H':Hp} {b:Addr} {xs:List V} (h:Tb A H) (s:SameT A.lt_picked H H') (e:H b = some (.tup xs)):H' b = some (.tup xs):=s b _ (h.ne e (fun _=>HO.noConfusion)) e
theorem Tb.free {A:Adr} {H H':Hp} {b:Addr} (h:Tb A H') (s:SameT A.lt_picked H H') (e:H' b = none):H b = none:=by
  cases z:H b with
  | none=>rfl
  | some o =>
    have n:b ≠ A.lt_picked:=fun y=>by
      rcases h with h | ⟨c,h,_⟩
      · rw [← y,e] at h; cases h
      · rw [← y,e] at h; cases h
    rw [s b o n z] at e
    cases e
def NatsAt (H:Hp) (l:Addr) (ks:List Nat):Prop:=H l = some (.lst (ks.map fun (k:Nat)=>V.int k))
theorem NatsAt.seq {H:Hp} {l:Addr} {ks:List Nat} (h:NatsAt H l ks):SqL K H l (ks.map fun (k:Nat)=>V.int k):=SqL.of h
theorem cut_mid {xs:List V} {lo n:Nat} (h:lo + n ≤ xs.length):cutV xs (some (lo:Int)) (some ((lo:Int) + (n:Int))) = (xs.drop lo).take n:=by
  unfold cutV
  rw [show (lo:Int) + (n:Int) = ((lo + n:Nat):Int) by omega,HT.sIx_nat,HT.sIx_nat]
  rw [show min lo xs.length = lo by omega,show min (lo + n) xs.length - lo = n by omega]
theorem cut_front {xs:List V} {n:Nat} (h:n ≤ xs.length):cutV xs none (some (n:Int)) = xs.take n:=by
  unfold cutV
  rw [HT.sIx_nat,HT.sIx_none,List.drop_zero,show min n xs.length - 0 = n by omega]
def xj0 (A:Adr):Sp:=fun vs H Q _=>∃ (a:Addr) (xs:List Int) (p:Nat),vs = [.ref a,.int p] ∧ LstAt H a xs ∧ xs.length = 2 * p - 1 ∧ Egz.Pr (p:Int) ∧ p ≤ 32 ∧ Tb A H ∧
  ∀ (l:Addr) (ks:List Nat) H',SameT A.lt_picked H H' → Tb A H' → H l = none → NatsAt H' l ks → Egz.Pick xs p ks → Q (.ref l) H'
theorem xjO (T:Txt K mg A):FnOk P w K mg base CX0 6 A.xj6 A.xka ["numbers", "prime"] (xj0 A):=by
  have xiV:=xiq (P:=P) (w:=w) (base:=base) T
  refine T.xj2.okL xjW (fun vs H Q E h=>?_) (fun Ar outer s H vs Q E hr h=>?_)
  · obtain ⟨a,xs,p,rfl,_⟩:=h
    rfl
  obtain ⟨a,xs,p,rfl,hA,hl,hP,hp,hT,q⟩:=h
  have hp2:=hP.1
  have ppos:(0:Int) < p:=by omega
  refine ⟨_,(@pss_cons _ _ _ _ _ (@ps_set _ _ (2) _ _ _ _ xjW.nd rfl (Or.inr rfl) (@pe_sortK _ _ _ _ _ _ _ (["place", "numbers", "prime"]) ([none,some 0,some 1]) ("place") _ _ _ _ _ _ _ _ rfl rfl (hr.mono (by decide)) rfl T.b_sorted rfl T.b_range (@pa_consN _ _ _ _ _ (@pe_callB _ _ _ _ _ _ _ _ _ call_len_seq rfl T.b_len B.len (@pa_consN _ _ _ _ _ (@pv _ 0 _ _ (by rfl) (Or.inr (Or.inl rfl)) (by decide) (by decide)) (@pa_nil _) (by rfl)) (by decide) (by decide) (by rfl) (by rfl)) (@pa_nil _) (by rfl)) T.lam_picked ⟨xfq,rfl,rfl,rfl,rfl,rfl,rfl,(fun _ _ _ _ _ _ _=>rfl),(fun A qual f c cl s H=>(pe_op op_mod (pe_ix (ix_listK (K:=K) (by rfl)) (pv 1 (hv:=(by exact .inr (.inr rfl)))) (pv 0 (hv:=(by exact .inl rfl))) (fun _ _=>rfl)) (pv 2 (hv:=(by exact .inr (.inr rfl))))))⟩ (by rfl)) (by rfl) (Or.inl rfl)) (@pss_cons _ _ _ _ _ (@ps_set _ _ (3) _ _ _ _ xjW.nd rfl (Or.inr rfl) (@pe_comp0 _ _ (["numbers", "prime", "place"]) ([some 0,some 1,none]) _ _ _ _ _ _ _ _ xfn rfl (@pi_list _ _ _ _ (@pv _ 2 _ _ (by rfl) (Or.inr (Or.inl rfl)) (by decide) (by decide))) (fun z=>(@pg_name _ _ (2) _ xfn.nd rfl (Or.inl rfl) (by exact .inr rfl))) (sets_name 2) (by decide) (fun z=>(@pe_op _ _ _ _ _ _ _ _ op_mod (@pe_ix _ _ _ _ _ _ _ (ix_listK (K:=K) (by rfl)) (@pv _ 0 _ _ (by rfl) (by exact .inr (.inl rfl)) (by decide) (by decide)) (@pv _ 2 _ _ (by rfl) (by exact .inl rfl) (by decide) (by decide)) (fun _ _=>rfl)) (@pv _ 1 _ _ (by rfl) (by exact .inr (.inl rfl)) (by decide) (by decide)))) (by intro _; rfl)) (by rfl) (Or.inl rfl)) (@pss_cons _ _ _ _ _ (@ps_for _ _ _ _ _ _ _ _ PassesOwn.never rfl (@pi_range2 _ _ _ _ _ _ _ rfl T.b_range (@pa_consN _ _ _ _ _ (@pe_int _ _ _ _) (@pa_consN _ _ _ _ _ (@pv _ 1 _ _ (by rfl) (Or.inr (Or.inl rfl)) (by decide) (by decide)) (@pa_nil _) (by rfl)) (by rfl)) (by rfl) (by rfl)) (@pg_name _ _ (4) _ xjW.nd rfl (Or.inl rfl) (Or.inl rfl)) (@pss_one _ _ _ (@ps_if _ _ _ _ _ _ _ _ (@pt_cmpR _ _ _ _ _ _ _ _ op_eqI (@pe_ix _ _ _ _ _ _ _ ix_list (@pv _ 3 _ _ (by rfl) (Or.inr (Or.inl rfl)) (by decide) (by decide)) (@pv _ 4 _ _ (by rfl) (Or.inl rfl) (by decide) (by decide)) (fun _ _=>rfl)) (@pe_ix _ _ _ _ _ _ _ ix_list (@pv _ 3 _ _ (by rfl) (Or.inr (Or.inl rfl)) (by decide) (by decide)) (@pe_op _ _ _ _ _ _ _ _ op_sub (@pe_op _ _ _ _ _ _ _ _ op_add (@pv _ 4 _ _ (by rfl) (Or.inl rfl) (by decide) (by decide)) (@pv _ 1 _ _ (by rfl) (Or.inr (Or.inl rfl)) (by decide) (by decide))) (@pe_int _ _ _ _)) (fun _ _=>rfl)) (nomark _)) (@pss_one _ _ _ (@ps_ret _ _ _ _ (@pe_slice _ _ _ _ _ _ _ _ _ _ sl_list (@pv _ 2 _ _ (by rfl) (Or.inr (Or.inl rfl)) (by decide) (by decide)) (@po_some _ _ _ (@pv _ 4 _ _ (by rfl) (Or.inl rfl) (by decide) (by decide))) (@po_some _ _ _ (@pe_op _ _ _ _ _ _ _ _ op_add (@pv _ 4 _ _ (by rfl) (Or.inl rfl) (by decide) (by decide)) (@pv _ 1 _ _ (by rfl) (Or.inr (Or.inl rfl)) (by decide) (by decide))))))) (@pss_nil _))) (by intro _; rfl)) (@pss_cons _ _ _ _ _ (@ps_setComp0 _ _ (["prime", "rests", "low"]) ([some 1,some 3,none]) _ _ _ _ _ _ _ _ (5) _ _ _ xjW.nd rfl rfl xfo rfl (@pi_range1 _ _ _ _ _ _ rfl T.b_range (@pa_consN _ _ _ _ _ (@pv _ 1 _ _ (by rfl) (Or.inr (Or.inl rfl)) (by decide) (by decide)) (@pa_nil _) (by rfl)) (by rfl)) (fun z=>(@pg_name _ _ (2) _ xfo.nd rfl (Or.inl rfl) (by exact .inr rfl))) (sets_name 2) (by decide) (fun z=>(@pe_op _ _ _ _ _ _ _ _ op_sub (@pe_ix _ _ _ _ _ _ _ (ix_listK (K:=K) (by rfl)) (@pv _ 1 _ _ (by rfl) (by exact .inr (.inl rfl)) (by decide) (by decide)) (@pe_op _ _ _ _ _ _ _ _ op_sub (@pe_op _ _ _ _ _ _ _ _ op_add (@pv _ 2 _ _ (by rfl) (by exact .inl rfl) (by decide) (by decide)) (@pv _ 0 _ _ (by rfl) (by exact .inr (.inl rfl)) (by decide) (by decide))) (@pe_int _ _ _ _)) (fun _ _=>rfl)) (@pe_ix _ _ _ _ _ _ _ (ix_listK (K:=K) (by rfl)) (@pv _ 1 _ _ (by rfl) (by exact .inr (.inl rfl)) (by decide) (by decide)) (@pv _ 2 _ _ (by rfl) (by exact .inl rfl) (by decide) (by decide)) (fun _ _=>rfl)))) (by rfl) (by intro _; rfl)) (@pss_cons _ _ _ _ _ (@ps_set _ _ (6) _ _ _ _ xjW.nd rfl (Or.inl rfl) (@pe_op _ _ _ _ _ _ _ _ op_mod (@pe_un _ _ _ _ _ _ un_neg (@pe_callB _ _ _ _ _ _ _ _ _ (call_sum rfl) rfl T.b_sum B.sum (@pa_consN _ _ _ _ _ (@pe_slice _ _ _ _ _ _ _ _ _ _ sl_list (@pv _ 3 _ _ (by rfl) (Or.inr (Or.inl rfl)) (by decide) (by decide)) (@po_none _) (@po_some _ _ _ (@pv _ 1 _ _ (by rfl) (Or.inr (Or.inl rfl)) (by decide) (by decide)))) (@pa_nil _) (by rfl)) (by decide) (by decide) (by rfl) (by rfl))) (@pv _ 1 _ _ (by rfl) (Or.inr (Or.inl rfl)) (by decide) (by decide))) (by rfl) (Or.inl rfl)) (@pss_cons _ _ _ _ _ (@ps_set _ _ (7) _ _ _ _ xjW.nd rfl (Or.inr rfl) (@pe_call _ _ _ _ _ _ _ _ _ _ _ _ _ _ _ _ xiV (hr.mono (by decide)) rfl T.xjF T.xjv T.xhx .nil pass0 (@pa_consN _ _ _ _ _ (@pv _ 5 _ _ (by rfl) (Or.inl rfl) (by decide) (by decide)) (@pa_consN _ _ _ _ _ (@pv _ 6 _ _ (by rfl) (Or.inl rfl) (by decide) (by decide)) (@pa_consN _ _ _ _ _ (@pv _ 1 _ _ (by rfl) (Or.inr (Or.inl rfl)) (by decide) (by decide)) (@pa_nil _) (by rfl)) (by rfl)) (by rfl)) (by decide) (by rfl) (by rfl)) (by rfl) (Or.inl rfl)) (@pss_one _ _ _ (@ps_ret _ _ _ _ (@pe_comp0 _ _ (["prime", "order", "changed", "low"]) ([some 1,some 2,some 7,none]) _ _ _ _ _ _ _ _ xfp rfl (@pi_range1 _ _ _ _ _ _ rfl T.b_range (@pa_consN _ _ _ _ _ (@pv _ 1 _ _ (by rfl) (Or.inr (Or.inl rfl)) (by decide) (by decide)) (@pa_nil _) (by rfl)) (by rfl)) (fun z=>(@pg_name _ _ (3) _ xfp.nd rfl (Or.inl rfl) (by exact .inr rfl))) (sets_name 3) (by decide) (fun z=>(@pe_ifExp _ _ _ _ _ _ _ _ (@pt_cmp _ _ _ _ _ _ (@pc_din _ _ _ _ _ hr.units2 (@pv _ 3 _ _ (by rfl) (by exact .inl rfl) (by decide) (by decide)) (@pv _ 2 _ _ (by rfl) (by exact .inr (.inl rfl)) (by decide) (by decide))) (by with_unfolding_all rfl)) (@pe_ix _ _ _ _ _ _ _ (ix_listK (K:=K) (by rfl)) (@pv _ 1 _ _ (by rfl) (by exact .inr (.inl rfl)) (by decide) (by decide)) (@pe_op _ _ _ _ _ _ _ _ op_sub (@pe_op _ _ _ _ _ _ _ _ op_add (@pv _ 3 _ _ (by rfl) (by exact .inl rfl) (by decide) (by decide)) (@pv _ 0 _ _ (by rfl) (by exact .inr (.inl rfl)) (by decide) (by decide))) (@pe_int _ _ _ _)) (fun _ _=>rfl)) (@pe_ix _ _ _ _ _ _ _ (ix_listK (K:=K) (by rfl)) (@pv _ 1 _ _ (by rfl) (by exact .inr (.inl rfl)) (by decide) (by decide)) (@pv _ 3 _ _ (by rfl) (by exact .inl rfl) (by decide) (by decide)) (fun _ _=>rfl)))) (by intro _; rfl)))))))))),?_⟩
  have at_:∀ {i:Nat},i < xs.length → atI (xs.map V.int) (i:Int) = some (.int (xs.getD i 0)):=fun {i} h=>by
    refine atI_nat ?_
    rw [List.getElem?_map,List.getD_eq_getElem?_getD,List.getElem?_eq_getElem h]
    rfl
  refine ⟨_,rfl,a,_,rfl,.inl hA.ints,xs.length,fun i=>xs.getD i 0 % (p:Int),by rw [List.length_map],by omega,hT,?_,?_⟩
  · intro i H' hi sT
    have hA':LstAt H' a xs:=hT.lst sT hA
    exact ⟨_,rfl,_,rfl,a,_,_,_,rfl,rfl,hA'.ints,at_ hi,_,rfl,_,_,rfl,rfl,ppos,rfl,rfl⟩
  intro l os H2 sT hT2 hl0 hperm hsrt hL
  have hL:NatsAt H2 l os:=hL
  have hA2:LstAt H2 a xs:=hT.lst sT hA
  have S:Egz.Srt xs p os:=⟨hperm,hsrt⟩
  have ol:os.length = 2 * p - 1:=by rw [S.len,hl]
  dsimp only [gName]
  refine ⟨_,rfl,l,rfl,⟨_,hL.seq⟩,comp_list (K:=K) (a:=l) (xs:=os.map fun (k:Nat)=>V.int k) (fun i ys H'=>H' = H2 ∧ ys = ((os.take i).map fun k=>xs.getD k 0 % (p:Int)).map V.int) ⟨rfl,rfl⟩ (by rw [List.length_map]; exact Nat.le_of_lt (small1000 (by omega))) ?_ ?_ ?_⟩
  · rintro i ys H' hi ⟨rfl,rfl⟩
    rw [List.length_map] at hi
    exact ⟨hL.seq,by rw [List.length_map,List.length_map,List.length_take]; omega⟩
  · rintro i x ys H' hx ⟨rfl,rfl⟩
    rw [List.getElem?_map] at hx
    obtain ⟨k,hk,rfl⟩:=Option.map_eq_some_iff.mp hx
    refine ⟨_,rfl,_,rfl,a,_,_,_,rfl,rfl,hA2.ints,at_ (S.lt (List.mem_of_getElem? hk)),_,rfl,_,_,rfl,rfl,ppos,rfl,?_⟩
    rw [take_snoc hk,List.map_append,List.map_append]
    rfl
  rintro ys H' ⟨rfl,rfl⟩ r hr0
  have sR:=same_new hr0 (.lst (((os.take (os.map fun (k:Nat)=>V.int k).length).map fun k=>xs.getD k 0 % (p:Int)).map V.int))
  have hR:LstAt (upd H' r (.lst (((os.take (os.map fun (k:Nat)=>V.int k).length).map fun k=>xs.getD k 0 % (p:Int)).map V.int))) r (os.map fun k=>xs.getD k 0 % (p:Int)):=by
    unfold LstAt
    rw [upd_same,List.length_map,List.take_length]
  generalize upd H' r (.lst (((os.take (os.map fun (k:Nat)=>V.int k).length).map fun k=>xs.getD k 0 % (p:Int)).map V.int)) = H3 at sR hR ⊢
  have sR:Same H' H3:=sR
  have hA3:=Same.lst sR hA2
  have hL3:NatsAt H3 l os:=sR _ _ hL
  have hT3:Tb A H3:=hT2.same sR
  have sT3:SameT A.lt_picked H H3:=sT.trans sR.sameT
  dsimp only [gName]
  have ra:∀ {i:Nat},i < 2 * p - 1 → atI ((os.map fun k=>xs.getD k 0 % (p:Int)).map V.int) (i:Int) = some (.int (Egz.rst xs p os i)):=fun {i} h=>by
    refine atI_nat ?_
    unfold Egz.rst
    rw [List.getElem?_map,List.getElem?_map,List.getD_eq_getElem?_getD (l:=os),List.getElem?_eq_getElem (show i < os.length by omega)]
    rfl
  have oa:∀ {i:Nat},i < 2 * p - 1 → atI (os.map fun (k:Nat)=>V.int k) (i:Int) = some (.int (os.getD i 0:Nat)):=fun {i} h=>by
    refine atI_nat ?_
    rw [List.getElem?_map,List.getD_eq_getElem?_getD,List.getElem?_eq_getElem (show i < os.length by omega)]
    rfl
  have far:∀ i:Nat,(i:Int) + (p:Int) - 1 = ((i + p - 1:Nat):Int):=fun i=>by omega
  have raf:∀ {i:Nat},i < p → atI ((os.map fun k=>xs.getD k 0 % (p:Int)).map V.int) ((i:Int) + (p:Int) - 1) = some (.int (Egz.rst xs p os (i + p - 1))):=fun {i} h=>by rw [far]; exact ra (by omega)
  have oaf:∀ {i:Nat},i < p → atI (os.map fun (k:Nat)=>V.int k) ((i:Int) + (p:Int) - 1) = some (.int (os.getD (i + p - 1) 0:Nat)):=fun {i} h=>by rw [far]; exact oa (by omega)
  have r0:∀ i,0 ≤ Egz.rst xs p os i ∧ Egz.rst xs p os i < p:=fun i=>⟨Int.emod_nonneg _ (by omega),Int.emod_lt_of_pos _ ppos⟩
  refine ⟨_,rfl,1,p,rfl,⟨by omega,by omega,by omega,by omega⟩,for_range (fun i σ H'=>∃ v:Option V,σ = [some (.ref a),some (.int p),some (.ref l),some (.ref r),v,none,none,none] ∧ H' = H3 ∧ ∀ j,1 ≤ j → j ≤ i → Egz.rst xs p os j ≠ Egz.rst xs p os (j + p - 1)) ⟨_,rfl,rfl,fun j h1 h2=>by omega⟩ ?_ ?_⟩
  · rintro i σ H' hi ⟨v,rfl,rfl,hne⟩
    dsimp only [gName]
    rw [show (1:Int) + (i:Int) = ((i + 1:Nat):Int) by omega]
    refine ⟨_,rfl,_,rfl,r,_,_,_,rfl,rfl,hR.ints,ra (by omega),_,rfl,_,rfl,_,rfl,_,_,rfl,rfl,_,_,rfl,rfl,r,_,_,_,rfl,rfl,hR.ints,raf (i:=i + 1) (by omega),_,_,rfl,rfl,_,rfl,?_⟩
    by_cases he:Egz.rst xs p os (i + 1) = Egz.rst xs p os (i + 1 + p - 1)
    · rw [decT he]
      refine iteT ⟨_,rfl,_,rfl,_,rfl,_,rfl,_,rfl,_,_,rfl,rfl,_,rfl,l,_,rfl,hL3.seq,fun b hb=>?_⟩
      refine q b _ _ (sT3.trans (same_new hb _).sameT) (hT3.same (same_new hb _)) (hT3.free sT3 hb) ?_ (Egz.pick_same S (by omega) (low:=i + 1) (by omega) he)
      unfold NatsAt
      rw [upd_same,cut_mid (by rw [List.length_map]; omega),List.map_take,List.map_drop]
    · rw [decF he]
      refine iteF ⟨_,rfl,rfl,fun j h1 h2=>?_⟩
      by_cases hj:j = i + 1
      · rw [hj]; exact he
      · exact hne j h1 (by omega)
  · rintro σ H' ⟨v,rfl,rfl,hne⟩
    refine ⟨_,rfl,p,rfl,by omega,by omega,comp_range (lo:=0) (n:=(p:Int).toNat) (fun i ys H1=>H1 = H' ∧ ys = ((List.range i).map fun j=>Egz.rst xs p os (j + p - 1) - Egz.rst xs p os j).map V.int) ⟨rfl,rfl⟩ (Nat.le_of_lt (small1000 (by omega))) ?_ ?_ ?_⟩
    · rintro i ys H1 hi ⟨rfl,rfl⟩
      rw [List.length_map,List.length_map,List.length_range]
    · rintro i ys H1 hi ⟨rfl,rfl⟩
      dsimp only [gName]
      rw [Int.zero_add]
      refine ⟨_,rfl,_,rfl,_,rfl,_,_,rfl,rfl,_,_,rfl,rfl,r,_,_,_,rfl,rfl,hR.ints,raf (by omega),_,rfl,_,rfl,r,_,_,_,rfl,rfl,hR.ints,ra (by omega),_,_,rfl,rfl,rfl,?_⟩
      rw [List.range_succ,List.map_append,List.map_append]
      rfl
    rintro ys H1 ⟨rfl,rfl⟩ g hg
    rw [Int.toNat_natCast]
    have sG:=same_new hg (.lst (((List.range p).map fun j=>Egz.rst xs p os (j + p - 1) - Egz.rst xs p os j).map V.int))
    have hGn:LstAt (upd H1 g (.lst (((List.range p).map fun j=>Egz.rst xs p os (j + p - 1) - Egz.rst xs p os j).map V.int))) g ((List.range p).map fun j=>Egz.rst xs p os (j + p - 1) - Egz.rst xs p os j):=upd_same
    generalize upd H1 g (.lst (((List.range p).map fun j=>Egz.rst xs p os (j + p - 1) - Egz.rst xs p os j).map V.int)) = H4 at sG hGn ⊢
    have sG:Same H1 H4:=sG
    have hR4:=Same.lst sG hR
    dsimp only [gName]
    refine ⟨_,rfl,_,rfl,_,rfl,r,_,rfl,hR4.ints,fun b hb=>⟨b,(os.map fun k=>xs.getD k 0 % (p:Int)).take p,rfl,SqL.of ?_,_,rfl,_,rfl,_,_,rfl,rfl,ppos,?_⟩⟩
    · rw [upd_same,cut_front (by rw [List.length_map,List.length_map]; omega),List.map_take]
    have sB:=same_new hb (.lst (cutV ((os.map fun k=>xs.getD k 0 % (p:Int)).map V.int) none (some (p:Int))))
    generalize upd H4 b (.lst (cutV ((os.map fun k=>xs.getD k 0 % (p:Int)).map V.int) none (some (p:Int)))) = H5 at sB ⊢
    have sB:Same H4 H5:=sB
    dsimp only [gName]
    have hfront:(os.map fun k=>xs.getD k 0 % (p:Int)).take p = (List.range p).map (Egz.rst xs p os):=by
      apply List.ext_getElem?
      intro i
      by_cases hi:i < p
      · rw [List.getElem?_take_of_lt hi,List.getElem?_map,List.getElem?_map,List.getElem?_range hi,List.getElem?_eq_getElem (show i < os.length by omega)]
        unfold Egz.rst
        rw [Option.map_some,Option.map_some,List.getD_eq_getElem?_getD (l:=os),List.getElem?_eq_getElem (show i < os.length by omega)]
        rfl
      · rw [List.getElem?_eq_none (by rw [List.length_take]; omega),List.getElem?_eq_none (by rw [List.length_map,List.length_range]; omega)]
    rw [hfront]
    have hgok:GnOk p ((List.range p).map fun j=>Egz.rst xs p os (j + p - 1) - Egz.rst xs p os j):=by
      refine ⟨by rw [List.length_map,List.length_range],fun j x hj hx=>?_⟩
      have hjp:j < p:=by
        have:=(List.getElem?_eq_some_iff.mp hx).1
        rw [List.length_map,List.length_range] at this
        exact this
      rw [List.getElem?_map,List.getElem?_range hjp] at hx
      have hx:Egz.rst xs p os (j + p - 1) - Egz.rst xs p os j = x:=Option.some.inj hx
      have h1:=Egz.rst_le S (show j ≤ j + p - 1 by omega) (by omega)
      have h2:=hne j hj (by omega)
      have h3:=r0 j
      have h4:=r0 (j + p - 1)
      omega
    refine ⟨_,rfl,_,rfl,_,rfl,g,_,_,p,rfl,Same.lst sB hGn,hgok,Int.emod_nonneg _ (by omega),Int.emod_lt_of_pos _ ppos,hP,by omega,fun d cs H6 s6 hd hD nd hc hs=>?_⟩
    have s36:Same H1 H6:=(sG.trans sB).trans s6
    have hL6:NatsAt H6 l os:=s36 _ _ hL3
    dsimp only [gName]
    refine ⟨_,rfl,p,rfl,by omega,by omega,comp_range (lo:=0) (n:=(p:Int).toNat) (fun i ys H7=>H7 = H6 ∧ ys = ((List.range i).map fun i=>if i ∈ cs then os.getD (i + p - 1) 0 else os.getD i 0).map fun (k:Nat)=>V.int k) ⟨rfl,rfl⟩ (Nat.le_of_lt (small1000 (by omega))) ?_ ?_ ?_⟩
    · rintro i ys H7 hi ⟨rfl,rfl⟩
      rw [List.length_map,List.length_map,List.length_range]
    · rintro i ys H7 hi ⟨rfl,rfl⟩
      dsimp only [gName]
      rw [Int.zero_add]
      refine ⟨_,rfl,_,rfl,d,_,rfl,DGet.k (k:=Sum.inl (i:Int)) hD,_,rfl,?_⟩
      rw [dtr_val]
      rw [List.range_succ,List.map_append,List.map_append]
      by_cases hm:i ∈ cs
      · rw [decT hm]
        refine iteT ⟨_,rfl,_,rfl,_,rfl,_,_,rfl,rfl,_,_,rfl,rfl,l,_,_,_,rfl,rfl,hL6.seq,oaf (by omega),rfl,?_⟩
        rw [List.map_singleton,List.map_singleton,if_pos hm]
      · rw [decF hm]
        refine iteF ⟨_,rfl,_,rfl,l,_,_,_,rfl,rfl,hL6.seq,oa (by omega),rfl,?_⟩
        rw [List.map_singleton,List.map_singleton,if_neg hm]
    rintro ys H7 ⟨rfl,rfl⟩ z hz
    rw [Int.toNat_natCast]
    have s7:SameT A.lt_picked H H7:=sT3.trans s36.sameT
    have hT7:Tb A H7:=hT3.same s36
    refine q z _ _ (s7.trans (same_new hz _).sameT) (hT7.same (same_new hz _)) (hT7.free s7 hz) upd_same (Egz.pick_changed S (by omega) ol nd hc ?_)
    have e:(cs.map fun c=>((List.range p).map fun j=>Egz.rst xs p os (j + p - 1) - Egz.rst xs p os j).getD c 0) = cs.map fun c=>Egz.rst xs p os (c + p - 1) - Egz.rst xs p os c:=List.map_congr_left fun c hcc=>by
      rw [List.getD_eq_getElem?_getD,List.getElem?_map,List.getElem?_range (hc c hcc).2]
      rfl
    rw [e] at hs
    rw [← Int.add_emod_emod,hs,Int.add_emod_emod,Int.add_right_neg,Int.zero_emod]
end
end W05
set_option Elab.async false
set_option linter.all false
set_option maxRecDepth 100000
namespace W05
open PySem L2
section
variable {P:Program} {w:World} {K:PySem.W.Frag} {mg:Str → Option Value} {base:Heap} {A:Adr}
def GrpAt (H:Hp) (b:Addr) (g:Int × List Nat):Prop:=∃ pl,H b = some (.tup [.int g.1,.ref pl]) ∧ NatsAt H pl g.2 ∧ g.2 ≠ []
theorem GrpAt.same {H H':Hp} {b:Addr} {g:Int × List Nat} (s:Same H H') (h:GrpAt H b g):GrpAt H' b g:=by
  obtain ⟨pl,h1,h2,h3⟩:=h
  exact ⟨pl,s _ _ h1,s _ _ h2,h3⟩
theorem GrpAt.sameT {A:Adr} {H H':Hp} {b:Addr} {g:Int × List Nat} (hT:Tb A H) (s:SameT A.lt_picked H H') (h:GrpAt H b g):GrpAt H' b g:=by
  obtain ⟨pl,h1,h2,h3⟩:=h
  exact ⟨pl,hT.tup s h1,hT.lst s h2,h3⟩
theorem GrpAt.put {H:Hp} {b l:Addr} {rs:List Addr} {ys:List V} {g:Int × List Nat} (e:H l = some (.lst (rs.map V.ref))) (h:GrpAt H b g):GrpAt (upd H l (.lst ys)) b g:=by
  obtain ⟨pl,h1,h2,h3⟩:=h
  refine ⟨pl,?_,?_,h3⟩
  · rw [upd_ne (fun z=>by rw [z,e] at h1; cases h1)]
    exact h1
  · unfold NatsAt
    rw [upd_ne (fun z=>?_)]
    · exact h2
    · unfold NatsAt at h2
      rw [z,e] at h2
      have h2:=HO.lst.inj (Option.some.inj h2)
      cases hg:g.2 with
      | nil=>exact h3 hg
      | cons x r =>
        rw [hg] at h2
        cases rs with
        | nil=>cases h2
        | cons y q=>cases h2
def xg5:Sp:=fun vs H Q _=>∃ (l:Addr) (as:List Addr) (gs:List (Int × List Nat)) (p:Nat),vs = [.ref l,.int p] ∧ H l = some (.lst (as.map V.ref)) ∧ Paired (GrpAt H) as gs ∧ gs ≠ [] ∧ 1 ≤ p ∧ p ≤ 1000 ∧ (gs.flatMap (·.2)).length ≤ 1000 ∧
  ∀ (b:Addr) H',Same H H' → H b = none → GrpAt H' b ((gs.map (·.1)).sum / (p:Int),gs.flatMap (·.2)) → Q (.ref b) H'
theorem flat_snoc {gs:List (Int × List Nat)} {i:Nat} {g:Int × List Nat} (h:gs[i]? = some g):(gs.take (i + 1)).flatMap (·.2) = (gs.take i).flatMap (·.2) ++ g.2:=by
  rw [take_snoc h,List.flatMap_append]
  simp
theorem flat_take_le {gs:List (Int × List Nat)} {i:Nat}:((gs.take i).flatMap (·.2)).length ≤ (gs.flatMap (·.2)).length:=by
  have:gs.flatMap (·.2) = (gs.take i).flatMap (·.2) ++ (gs.drop i).flatMap (·.2):=by rw [← List.flatMap_append,List.take_append_drop]
  rw [this,List.length_append]
  omega
theorem xgQ (T:Txt K mg A):FnOk P w K mg base CX0 2 A.xhs A.xhR ["groups", "prime"] xg5:=by
  refine T.xhl.ok xg0 (fun vs H Q E h=>?_) (fun cdv Ar outer s H vs Q E hr h=>?_)
  · obtain ⟨l,as,gs,p,rfl,_⟩:=h
    rfl
  obtain ⟨l,as,gs,p,rfl,hL,hP,hne,p1,p2,hlen,q⟩:=h
  have hal:=hP.length
  refine ⟨_,(@pss_cons _ _ _ _ _ (@ps_set _ _ (2) _ _ _ _ xg0.nd rfl (Or.inl rfl) (@pe_int _ _ _ _) (by rfl) (Or.inl rfl)) (@pss_cons _ _ _ _ _ (@ps_set _ _ (3) _ _ _ _ xg0.nd rfl (Or.inl rfl) (@pe_lst _ _ _ _ (@pa_nil _)) (by rfl) (Or.inl rfl)) (@pss_cons _ _ _ _ _ (@ps_for _ _ _ _ _ _ _ _ PassesOwn.never rfl (@pi_list _ _ _ _ (@pv _ 0 _ _ (by rfl) (Or.inl rfl) (by decide) (by decide))) (@pg_name _ _ (4) _ xg0.nd rfl (Or.inl rfl) (Or.inl rfl)) (@pss_cons _ _ _ _ _ (@ps_set _ _ (2) _ _ _ _ xg0.nd rfl (Or.inl rfl) (@pe_op _ _ _ _ _ _ _ _ op_add (@pv _ 2 _ _ (by rfl) (Or.inl rfl) (by decide) (by decide)) (@pe_ix _ _ _ _ _ _ _ ix_tup (@pv _ 4 _ _ (by rfl) (Or.inl rfl) (by decide) (by decide)) (@pe_int _ _ _ _) (fun _ _=>rfl))) (by rfl) (Or.inl rfl)) (@pss_one _ _ _ (@ps_expr _ _ _ _ (@pe_bm _ _ _ _ _ _ _ _ _ _ _ _ PySem.F.plainAttrs_list PySem.F.slot_list_extend PySem.F.type_list_extend mt_extend (@pv _ 3 _ _ (by rfl) (Or.inl rfl) (by decide) (by decide)) (@pa_consN _ _ _ _ _ (@pe_ix _ _ _ _ _ _ _ ix_tup (@pv _ 4 _ _ (by rfl) (Or.inl rfl) (by decide) (by decide)) (@pe_int _ _ _ _) (fun _ _=>rfl)) (@pa_nil _) (by rfl)) (by rfl) (by rfl) (by rfl) (by rfl) (by rfl)) (by rfl)))) (by intro _; rfl)) (@pss_one _ _ _ (@ps_ret _ _ _ _ (@pe_tup _ _ _ _ _ (@pa_consN _ _ _ _ _ (@pe_op _ _ _ _ _ _ _ _ op_fdiv (@pv _ 2 _ _ (by rfl) (Or.inl rfl) (by decide) (by decide)) (@pv _ 1 _ _ (by rfl) (Or.inl rfl) (by decide) (by decide))) (@pa_consN _ _ _ _ _ (@pv _ 3 _ _ (by rfl) (Or.inl rfl) (by decide) (by decide)) (@pa_nil _) (by rfl)) (by rfl)))))))),?_⟩
  refine ⟨(by show 0 ≤ sizeLine; decide),fun pl hpl=>?_⟩
  dsimp only [gName]
  refine ⟨_,rfl,l,rfl,⟨_,SqL.of ((same_new hpl _) _ _ hL)⟩,for_list (K:=K) (a:=l) (xs:=as.map V.ref) (fun i σ H'=>∃ v:Option V,σ = [some (.ref l),some (.int p),some (.int ((gs.take i).map (·.1)).sum),some (.ref pl),v] ∧ Same H H' ∧ NatsAt H' pl ((gs.take i).flatMap (·.2))) ⟨none,rfl,same_new hpl _,upd_same⟩ ?_ ?_ ?_⟩
  · rintro i σ H' hi ⟨v,rfl,sH,hN⟩
    exact SqL.of (sH _ _ hL)
  · rintro i x σ H' hx ⟨v,rfl,sH,hN⟩
    rw [List.getElem?_map] at hx
    obtain ⟨b,hb,rfl⟩:=Option.map_eq_some_iff.mp hx
    have hi:i < gs.length:=by
      have:=(List.getElem?_eq_some_iff.mp hb).1
      omega
    obtain ⟨b',hb',hg⟩:=Paired.get' hP i gs[i] (List.getElem?_eq_getElem hi)
    rw [hb] at hb'
    cases hb'
    obtain ⟨pq,g1,g2,g3⟩:=hg.same sH
    have hpq:pq ≠ pl:=fun z=>by
      obtain ⟨pq',e1,e2,_⟩:=hg
      rw [sH _ _ e1] at g1
      cases g1
      unfold NatsAt at e2
      rw [z,hpl] at e2
      cases e2
    dsimp only [gName]
    have hgi:gs[i]? = some gs[i]:=List.getElem?_eq_getElem hi
    have hfl:=flat_take_le (gs:=gs) (i:=i + 1)
    rw [flat_snoc hgi,List.length_append] at hfl
    refine ⟨_,rfl,_,rfl,b,_,0,_,rfl,rfl,SqT.of g1,rfl,_,_,rfl,rfl,_,rfl,.inl ⟨rfl,_,hN.seq⟩,_,rfl,b,_,1,_,rfl,rfl,SqT.of g1,rfl,pl,pq,_,_,rfl,rfl,hN,g2,?_,some (.ref b),?_,fun c o e=>?_,?_⟩
    · rw [List.length_map,List.length_map]
      exact Nat.le_of_lt (small1000 (by omega))
    · rw [take_snoc hgi,List.map_append,List.sum_append,List.map_singleton,List.sum_singleton]
      rfl
    · rw [upd_ne (ne_of_none e hpl)]
      exact sH c o e
    · unfold NatsAt
      rw [upd_same,flat_snoc hgi,List.map_append]
  · rintro σ H' ⟨v,rfl,sH,hN⟩
    rw [List.length_map,hal,List.take_length] at hN
    rw [List.length_map,hal,List.take_length]
    refine ⟨_,rfl,_,rfl,_,_,rfl,rfl,⟨by omega,by omega⟩,_,rfl,(by show 2 ≤ sizeLine; decide),fun b hb=>q b _ (sH.trans (same_new hb _)) (sH.free hb) ⟨pl,upd_same,(same_new hb _) _ _ hN,?_⟩⟩
    cases gs with
    | nil=>exact absurd rfl hne
    | cons g gs =>
      cases hP with
      | cons h1 h2 =>
        obtain ⟨_,_,_,h3⟩:=h1
        intro z
        rw [List.flatMap_cons] at z
        exact h3 (List.append_eq_nil_iff.mp z).1
end
end W05
set_option Elab.async false
set_option linter.all false
set_option maxRecDepth 100000
namespace W05
open PySem L2
section
variable {P:Program} {w:World} {K:PySem.W.Frag} {mg:Str → Option Value} {base:Heap} {A:Adr}
abbrev Gr:=Int × List Nat
def unp (n:Nat) (ks:List Nat):List Nat:=(List.range n).filter fun i=>!decide (i ∈ ks)
theorem range_perm {n:Nat} {ks:List Nat} (nd:ks.Nodup) (h:∀ k ∈ ks,k < n):(List.range n).Perm (ks ++ unp n ks):=by
  have h1:=List.filter_append_perm (fun i=>decide (i ∈ ks)) (List.range n)
  have h2:((List.range n).filter fun i=>decide (i ∈ ks)).Perm ks:=by
    refine (List.perm_ext_iff_of_nodup (List.nodup_range.sublist List.filter_sublist) nd).mpr fun a=>?_
    rw [List.mem_filter,List.mem_range,decide_eq_true_iff]
    exact ⟨fun z=>z.2,fun z=>⟨h a z,z⟩⟩
  exact h1.symm.trans (h2.append_right _)
theorem range_map {held:List Gr} {d:Gr}:(List.range held.length).map (fun i=>held.getD i d) = held:=by
  apply List.ext_getElem?
  intro i
  rw [List.getElem?_map]
  by_cases hi:i < held.length
  · rw [List.getElem?_range hi,List.getElem?_eq_getElem hi,Option.map_some,List.getD_eq_getElem?_getD,List.getElem?_eq_getElem hi]
    rfl
  · rw [List.getElem?_eq_none (by rw [List.length_range]; omega),List.getElem?_eq_none (by omega)]
    rfl
theorem pick_perm {held:List Gr} {d:Gr} {ks:List Nat} (nd:ks.Nodup) (h:∀ k ∈ ks,k < held.length):held.Perm (ks.map (fun i=>held.getD i d) ++ (unp held.length ks).map fun i=>held.getD i d):=by
  have h1:=(range_perm nd h).map fun i=>held.getD i d
  rw [range_map,List.map_append] at h1
  exact h1
def GEach (xs:List Int) (q:Nat) (g:Gr):Prop:=g.2.length = q ∧ (g.2.map fun k=>xs.getD k 0).sum = (q:Int) * g.1
theorem each_flat {xs:List Int} {q:Nat}:∀ {pg:List Gr},(∀ g ∈ pg,GEach xs q g) → (pg.flatMap (·.2)).length = q * pg.length ∧ ((pg.flatMap (·.2)).map fun k=>xs.getD k 0).sum = (q:Int) * (pg.map (·.1)).sum
  | [],_=>⟨rfl,by simp⟩
  | g :: pg,h=>by
    obtain ⟨h1,h2⟩:=each_flat fun g hg=>h g (List.mem_cons_of_mem _ hg)
    obtain ⟨h3,h4⟩:=h g List.mem_cons_self
    rw [List.flatMap_cons,List.length_append,List.map_append,List.sum_append,h1,h2,h3,h4,List.length_cons,List.map_cons,List.sum_cons,Int.mul_add,Nat.mul_add]
    exact ⟨by omega,rfl⟩
structure GI (xs:List Int) (q p B:Nat) (gs:List Gr) (i:Nat) (made held:List Gr):Prop where
  me:∀ g ∈ made,GEach xs (q * p) g
  he:∀ g ∈ held,GEach xs q g
  perm:(made.flatMap (·.2) ++ held.flatMap (·.2)).Perm ((gs.take i).flatMap (·.2))
  cnt:held.length + p * made.length = i
  lt:held.length + B ≤ 2 * p
  or_:made = [] ∨ p ≤ held.length + 1
theorem GI.push {xs:List Int} {q p:Nat} {gs made held:List Gr} {i:Nat} {g:Gr} (h:GI xs q p 2 gs i made held) (hg:gs[i]? = some g) (e:GEach xs q g):GI xs q p 1 gs (i + 1) made (held ++ [g]):=by
  refine ⟨h.me,fun x hx=>?_,?_,?_,?_,?_⟩
  · rcases List.mem_append.mp hx with z | z
    · exact h.he x z
    · rw [List.mem_singleton.mp z]; exact e
  · rw [flat_snoc hg,List.flatMap_append,← List.append_assoc]
    refine h.perm.append ?_
    simp
  · have:=h.cnt
    rw [List.length_append,List.length_singleton]
    omega
  · have:=h.lt
    rw [List.length_append,List.length_singleton]
    omega
  · rcases h.or_ with z | z
    · exact .inl z
    · exact .inr (by rw [List.length_append,List.length_singleton]; omega)
theorem GI.keep {xs:List Int} {q p:Nat} {gs made held:List Gr} {i:Nat} (h:GI xs q p 1 gs i made held) (hn:held.length + 1 ≠ 2 * p):GI xs q p 2 gs i made held :=
  ⟨h.me,h.he,h.perm,h.cnt,by have:=h.lt; omega,h.or_⟩
theorem GI.pick {xs:List Int} {q p:Nat} {gs made held:List Gr} {i:Nat} (h:GI xs q p 1 gs i made held) (hp:1 ≤ p) (hl:held.length + 1 = 2 * p) {ks:List Nat} (hk:Egz.Pick (held.map (·.1)) p ks) :
    GI xs q p 2 gs i (made ++ [(((ks.map fun k=>held.getD k (0,[])).map (·.1)).sum / (p:Int),(ks.map fun k=>held.getD k (0,[])).flatMap (·.2))]) ((unp held.length ks).map fun k=>held.getD k (0,[])):=by
  have hlt:∀ k ∈ ks,k < held.length:=fun k z=>by have:=hk.lt k z; rw [List.length_map] at this; exact this
  have hpp:=pick_perm (d:=(0,[])) hk.nd hlt
  have hme:∀ g ∈ ks.map (fun k=>held.getD k (0,[])),GEach xs q g:=fun g hg=>h.he g (hpp.mem_iff.mpr (List.mem_append_left _ hg))
  obtain ⟨f1,f2⟩:=each_flat hme
  have hS:((ks.map fun k=>held.getD k (0,[])).map (·.1)).sum = (ks.map fun k=>(held.map (·.1)).getD k 0).sum:=by
    rw [List.map_map]
    congr 1
    refine List.map_congr_left fun k z=>?_
    show (held.getD k (0,[])).1 = _
    rw [List.getD_eq_getElem?_getD,List.getD_eq_getElem?_getD,List.getElem?_map,List.getElem?_eq_getElem (hlt k z)]
    rfl
  have hm:=hk.sum
  rw [← hS] at hm
  have hlen:=hpp.length_eq
  rw [List.length_append,List.length_map,List.length_map,hk.len] at hlen
  refine ⟨fun g hg=>?_,fun g hg=>h.he g (hpp.mem_iff.mpr (List.mem_append_right _ hg)),?_,?_,?_,.inr ?_⟩
  · rcases List.mem_append.mp hg with z | z
    · exact h.me g z
    · rw [List.mem_singleton.mp z]
      refine ⟨by show _ = q * p; rw [f1,List.length_map,hk.len],?_⟩
      show ((ks.map fun k=>held.getD k (0,[])).flatMap (·.2) |>.map fun k=>xs.getD k 0).sum = ((q * p:Nat):Int) * _
      rw [f2,Int.natCast_mul,Int.mul_assoc,Int.mul_ediv_cancel' (Int.dvd_of_emod_eq_zero hm)]
  · refine List.Perm.trans ?_ h.perm
    rw [List.flatMap_append,List.append_assoc]
    refine List.Perm.append_left _ ?_
    have:=hpp.flatMap_right (·.2)
    rw [List.flatMap_append] at this
    refine List.Perm.trans ?_ this.symm
    simp
  · have:=h.cnt
    rw [List.length_map,List.length_append,List.length_singleton,Nat.mul_add]
    omega
  · rw [List.length_map]
    omega
  · rw [List.length_map]
    omega
theorem GI.done {xs:List Int} {q p m:Nat} {gs made held:List Gr} (hG:Egz.Grp xs q gs) (hp:2 ≤ p) (hm:1 ≤ m) (hl:gs.length + 1 = 2 * (p * m)) (h:GI xs q p 2 gs gs.length made held):Egz.Grp xs (q * p) made ∧ made.length + 1 = 2 * m:=by
  have hpm:=h.perm
  rw [List.take_length] at hpm
  refine ⟨⟨fun g hg=>h.me g hg,?_,fun k hk=>hG.lt k (hpm.mem_iff.mp (List.mem_append_left _ hk))⟩,?_⟩
  · have:=hpm.nodup_iff.mpr hG.nd
    exact (List.nodup_append.mp this).1
  · have h1:=h.cnt
    have h2:=h.lt
    have h3:p * 1 ≤ p * m:=Nat.mul_le_mul_left _ hm
    have h4:p ≤ held.length + 1:=by
      rcases h.or_ with z | z
      · rw [z,List.length_nil,Nat.mul_zero] at h1
        omega
      · exact z
    have h5:p ∣ held.length + 1:=by
      have e:held.length + 1 + p * made.length = p * (2 * m):=by
        have:p * (2 * m) = 2 * (p * m):=by rw [Nat.mul_left_comm]
        omega
      have d1:p ∣ held.length + 1 + p * made.length:=e ▸ Nat.dvd_mul_right ..
      exact (Nat.dvd_add_left (Nat.dvd_mul_right p made.length)).mp d1
    obtain ⟨c,hc⟩:=h5
    have hc1:c = 1:=by
      rcases Nat.lt_or_ge c 2 with z | z
      · rcases Nat.eq_zero_or_pos c with y | y
        · rw [y,Nat.mul_zero] at hc
          omega
        · omega
      · have:=Nat.mul_le_mul_left p z
        omega
    rw [hc1,Nat.mul_one] at hc
    have e:p * (made.length + 1) = p * (2 * m):=by
      have:p * (2 * m) = 2 * (p * m):=by rw [Nat.mul_left_comm]
      rw [Nat.mul_add,Nat.mul_one]
      omega
    exact Nat.eq_of_mul_eq_mul_left (by omega) e
end
end W05
set_option Elab.async false
set_option linter.all false
set_option maxRecDepth 100000
namespace W05
open PySem L2
section
variable {P:Program} {w:World} {K:PySem.W.Frag} {mg:Str → Option Value} {base:Heap} {A:Adr}
theorem pairedSnoc {α β:Type} {F:α → β → Prop} {l₁:List α} {l₂:List β} {a:α} {b:β} (h:Paired F l₁ l₂) (e:F a b):Paired F (l₁ ++ [a]) (l₂ ++ [b]):=by
  induction h with
  | nil=>exact .cons e .nil
  | cons h _ ih=>exact .cons h ih
theorem pairedMap {α β γ:Type} {F:α → β → Prop} {f:γ → α} {g:γ → β}:∀ {l:List γ},(∀ k ∈ l,F (f k) (g k)) → Paired F (l.map f) (l.map g)
  | [],_=>.nil
  | k :: l,h=>.cons (h k List.mem_cons_self) (pairedMap fun j hj=>h j (List.mem_cons_of_mem _ hj))
theorem pairedAt {F:Addr → Gr → Prop} {hs:List Addr} {held:List Gr} (h:Paired F hs held) {k:Nat} (hk:k < held.length):F (hs.getD k 0) (held.getD k (0,[])):=by
  obtain ⟨b,hb,q⟩:=Paired.get' h k held[k] (List.getElem?_eq_getElem hk)
  rw [List.getD_eq_getElem?_getD,hb,List.getD_eq_getElem?_getD,List.getElem?_eq_getElem hk]
  exact q
theorem Tb.put {A:Adr} {H:Hp} {l:Addr} {xs ys:List V} (h:Tb A H) (e:H l = some (.lst xs)):Tb A (upd H l (.lst ys)):=by
  have n:=h.ne e (fun _=>HO.noConfusion)
  rcases h with h | ⟨c,h1,h2⟩
  · exact .inl (by rw [upd_ne n.symm]; exact h)
  · refine .inr ⟨c,by rw [upd_ne n.symm]; exact h1,?_⟩
    rw [upd_ne (fun z=>by rw [z,e] at h2; cases h2)]
    exact h2
theorem sameT_put {T:Addr} {H H':Hp} {l:Addr} {o:HO} (s:SameT T H H') (e:H l = none):SameT T H (upd H' l o):=fun b u n q=>by
  rw [upd_ne (ne_of_none q e)]
  exact s b u n q
theorem comp_enumF {K:PySem.W.Frag} {a:Addr} {xs:List V} {B:V → Hp → (V → Hp → Prop) → (Hp → Prop) → Prop} {F:List V → Hp → Prop} {H:Hp} (Pv:Nat → List V → Hp → Prop) (h0:Pv 0 [] H) (hz:xs.length ≤ sizeLine)
    (hl:∀ i zs H,i ≤ xs.length → Pv i zs H → SqL K H a xs ∧ zs.length ≤ i)
    (hs:∀ i x zs H p,xs[i]? = some x → Pv i zs H → H p = none → B (.ref p) (upd H p (.tup [.int (i:Nat),x])) (fun z H4=>Pv (i + 1) (zs ++ [z]) H4) (fun H4=>Pv (i + 1) zs H4))
    (hd:∀ zs H,Pv xs.length zs H → F zs H) :
    ∃ W:Nat → Nat → List V → Hp → Prop,(∃ m,W 0 m [] H) ∧ ∀ i m zs H,W i m zs H →
      ((Ite K a).stop i H ∧ zs.length ≤ sizeLine ∧ F zs H) ∨
      ((Ite K a).go i H ∧ zs.length ≤ sizeLine ∧ ∃ (N1:V → Hp → Prop) (N0:Hp → Prop),(∀ y H',N1 y H' → ∃ m',m' < m ∧ W (i + 1) m' (zs ++ [y]) H') ∧ (∀ H',N0 H' → ∃ m',m' < m ∧ W (i + 1) m' zs H') ∧ ∀ x H',(Ite K a).yld i H x H' → B x H' N1 N0):=by
  refine ⟨fun i m zs H=>m = xs.length - i ∧ i ≤ xs.length ∧ Pv i zs H,⟨xs.length,by simp,Nat.zero_le _,h0⟩,?_⟩
  rintro i m zs H ⟨rfl,hi,p⟩
  obtain ⟨q1,el⟩:=hl i zs H hi p
  have hzz:zs.length ≤ sizeLine:=Nat.le_trans (Nat.le_trans el hi) hz
  by_cases hlt:i < xs.length
  · refine .inr ⟨⟨xs,xs[i],q1,by simp [hlt]⟩,hzz,fun y H4=>Pv (i + 1) (zs ++ [y]) H4,fun H4=>Pv (i + 1) zs H4,fun y H' q4=>⟨xs.length - (i + 1),by omega,rfl,hlt,q4⟩,fun H' q4=>⟨xs.length - (i + 1),by omega,rfl,hlt,q4⟩,fun x H' y=>?_⟩
    obtain ⟨r,u,rfl,hr,rfl,hu⟩:=y
    exact hs i u zs H r (hu xs q1) p hr
  · have e:i = xs.length:=by omega
    exact .inl ⟨⟨xs,q1,by omega⟩,hzz,hd zs H (e ▸ p)⟩
def xiM (A:Adr):Sp:=fun vs H Q _=>∃ (l:Addr) (xs:List Int) (q p m:Nat) (as:List Addr) (gs:List Gr),vs = [.ref l,.int p] ∧ H l = some (.lst (as.map V.ref)) ∧ Paired (GrpAt H) as gs ∧ Egz.Grp xs q gs ∧ Egz.Pr (p:Int) ∧ p ≤ 32 ∧ 1 ≤ m ∧ gs.length + 1 = 2 * (p * m) ∧ gs.length ≤ 63 ∧ xs.length ≤ 1000 ∧ Tb A H ∧
  ∀ (l':Addr) (as':List Addr) (gs':List Gr) H',SameT A.lt_picked H H' → Tb A H' → H l' = none → H' l' = some (.lst (as'.map V.ref)) → Paired (GrpAt H') as' gs' → Egz.Grp xs (q * p) gs' → gs'.length + 1 = 2 * m → Q (.ref l') H'
def WG (A:Adr) (l:Addr) (xs:List Int) (q p:Nat) (gs:List Gr) (H:Hp) (i:Nat) (σ:St) (H':Hp):Prop:=∃ (v4 v5 v6:Option V) (ma he:Addr) (ms hs:List Addr) (made held:List Gr),σ = [some (.ref l),some (.int p),some (.ref ma),some (.ref he),v4,v5,v6] ∧ SameT A.lt_picked H H' ∧ Tb A H' ∧ H ma = none ∧ H he = none ∧ ma ≠ he ∧ H' ma = some (.lst (ms.map V.ref)) ∧ Paired (GrpAt H') ms made ∧ H' he = some (.lst (hs.map V.ref)) ∧ Paired (GrpAt H') hs held ∧ GI xs q p 2 gs i made held
theorem xir (T:Txt K mg A):FnOk P w K mg base CX0 7 A.xi0 A.xji ["groups", "prime"] (xiM A):=by
  have xj4:=xjO (P:=P) (w:=w) (base:=base) T
  have xho:=xgQ (P:=P) (w:=w) (base:=base) T
  refine T.xiS.ok xiE (fun vs H Q E h=>?_) (fun cdv Ar outer s H vs Q E hr h=>?_)
  · obtain ⟨l,xs,q,p,m,as,gs,rfl,_⟩:=h
    rfl
  obtain ⟨l,xs,q,p,m,as,gs,rfl,hL,hPd,hG,hP,hp,hm,hgl,hg63,hx,hT,k⟩:=h
  have hp2:=hP.1
  have hal:=hPd.length
  refine ⟨_,(@pss_cons _ _ _ _ _ (@ps_set _ _ (2) _ _ _ _ xiE.nd rfl (Or.inl rfl) (@pe_lst _ _ _ _ (@pa_nil _)) (by rfl) (Or.inl rfl)) (@pss_cons _ _ _ _ _ (@ps_set _ _ (3) _ _ _ _ xiE.nd rfl (Or.inr rfl) (@pe_lst _ _ _ _ (@pa_nil _)) (by rfl) (Or.inl rfl)) (@pss_cons _ _ _ _ _ (@ps_for _ _ _ _ _ _ _ _ PassesOwn.never rfl (@pi_list _ _ _ _ (@pv _ 0 _ _ (by rfl) (Or.inl rfl) (by decide) (by decide))) (@pg_name _ _ (4) _ xiE.nd rfl (Or.inl rfl) (Or.inl rfl)) (@pss_cons _ _ _ _ _ (@ps_expr _ _ _ _ (@pe_bm _ _ _ _ _ _ _ _ _ _ _ _ PySem.F.plainAttrs_list PySem.F.slot_list_append PySem.F.type_list_append mt_append (@pv _ 3 _ _ (by rfl) (Or.inr (Or.inl rfl)) (by decide) (by decide)) (@pa_consN _ _ _ _ _ (@pv _ 4 _ _ (by rfl) (Or.inl rfl) (by decide) (by decide)) (@pa_nil _) (by rfl)) (by rfl) (by rfl) (by rfl) (by rfl) (by rfl)) (by rfl)) (@pss_one _ _ _ (@ps_if _ _ _ _ _ _ _ _ (@pt_cmpR _ _ _ _ _ _ _ _ op_eqI (@pe_callB _ _ _ _ _ _ _ _ _ call_len_seq rfl T.b_len B.len (@pa_consN _ _ _ _ _ (@pv _ 3 _ _ (by rfl) (Or.inr (Or.inl rfl)) (by decide) (by decide)) (@pa_nil _) (by rfl)) (by decide) (by decide) (by rfl) (by rfl)) (@pe_op _ _ _ _ _ _ _ _ op_sub (@pe_op _ _ _ _ _ _ _ _ op_mul (@pe_int _ _ _ _) (@pv _ 1 _ _ (by rfl) (Or.inl rfl) (by decide) (by decide))) (@pe_int _ _ _ _)) (nomark _)) (@pss_cons _ _ _ _ _ (@ps_set _ _ (5) _ _ _ _ xiE.nd rfl (Or.inl rfl) (@pe_call _ _ _ _ _ _ _ _ _ _ _ _ _ _ _ _ xj4 (hr.mono (by decide)) rfl T.xki T.xke T.xi6 .nil pass0 (@pa_consN _ _ _ _ _ (@pe_comp0 _ _ (["number", "places"]) ([none,none]) _ _ _ _ _ _ _ _ xd8 rfl (@pi_list _ _ _ _ (@pv _ 3 _ _ (by rfl) (Or.inr (Or.inl rfl)) (by decide) (by decide))) (fun z=>(@pg_tup _ _ _ _ _ (2) rfl (@pgs_cons _ _ _ _ _ (@pg_name _ _ (0) _ xd8.nd rfl (Or.inl rfl) (by exact .inr rfl)) (@pgs_cons _ _ _ _ _ (@pg_name _ _ (1) _ xd8.nd rfl (Or.inl rfl) (by exact .inr rfl)) (@pgs_nil _) (by rfl)) (by rfl)) (by rfl) (by rfl))) (sets_two _ _ 0 1) (by decide) (fun z=>(@pv _ 0 _ _ (by rfl) (by exact .inl rfl) (by decide) (by decide))) (by intro _; rfl)) (@pa_consN _ _ _ _ _ (@pv _ 1 _ _ (by rfl) (Or.inl rfl) (by decide) (by decide)) (@pa_nil _) (by rfl)) (by rfl)) (by decide) (by rfl) (by rfl)) (by rfl) (Or.inl rfl)) (@pss_cons _ _ _ _ _ (@ps_expr _ _ _ _ (@pe_bm _ _ _ _ _ _ _ _ _ _ _ _ PySem.F.plainAttrs_list PySem.F.slot_list_append PySem.F.type_list_append mt_append (@pv _ 2 _ _ (by rfl) (Or.inl rfl) (by decide) (by decide)) (@pa_consN _ _ _ _ _ (@pe_call _ _ _ _ _ _ _ _ _ _ _ _ _ _ _ _ xho (hr.mono (by decide)) rfl T.xih T.xh8 T.xfS .nil pass0 (@pa_consN _ _ _ _ _ (@pe_comp0 _ _ (["held", "pick"]) ([some 3,none]) _ _ _ _ _ _ _ _ xd9 rfl (@pi_list _ _ _ _ (@pv _ 5 _ _ (by rfl) (Or.inl rfl) (by decide) (by decide))) (fun z=>(@pg_name _ _ (1) _ xd9.nd rfl (Or.inl rfl) (by exact .inr rfl))) (sets_name 1) (by decide) (fun z=>(@pe_ix _ _ _ _ _ _ _ (ix_listK (K:=K) (by rfl)) (@pv _ 0 _ _ (by rfl) (by exact .inr (.inl rfl)) (by decide) (by decide)) (@pv _ 1 _ _ (by rfl) (by exact .inl rfl) (by decide) (by decide)) (fun _ _=>rfl))) (by intro _; rfl)) (@pa_consN _ _ _ _ _ (@pv _ 1 _ _ (by rfl) (Or.inl rfl) (by decide) (by decide)) (@pa_nil _) (by rfl)) (by rfl)) (by decide) (by rfl) (by rfl)) (@pa_nil _) (by rfl)) (by rfl) (by rfl) (by rfl) (by rfl) (by rfl)) (by rfl)) (@pss_cons _ _ _ _ _ (@ps_set _ _ (6) _ _ _ _ xiE.nd rfl (Or.inr rfl) (@pe_callTy _ _ _ _ _ _ _ _ _ (call_dictPairs rfl) rfl T.b_dict B.dict (@pa_consN _ _ _ _ _ (@pe_comp0 _ _ (["pick"]) ([none]) _ _ _ _ _ _ _ _ xea rfl (@pi_list _ _ _ _ (@pv _ 5 _ _ (by rfl) (Or.inl rfl) (by decide) (by decide))) (fun z=>(@pg_name _ _ (0) _ xea.nd rfl (Or.inl rfl) (by exact .inr rfl))) (sets_name 0) (by decide) (fun z=>(@pe_tup _ _ _ _ _ (@pa_consN _ _ _ _ _ (@pv _ 0 _ _ (by rfl) (by exact .inl rfl) (by decide) (by decide)) (@pa_consN _ _ _ _ _ (@pe_bl _ _ _ _) (@pa_nil _) (by rfl)) (by rfl)))) (by intro _; rfl)) (@pa_nil _) (by rfl)) (by decide) (by decide) (by rfl) (by rfl)) (by rfl) (Or.inl rfl)) (@pss_one _ _ _ (@ps_set _ _ (3) _ _ _ _ xiE.nd rfl (Or.inr rfl) (@pe_comp _ _ (["taken", "place", "other"]) ([some 6,none,none]) _ _ _ _ _ _ _ _ _ _ xeb rfl (@pi_enum _ _ _ _ _ _ _ _ rfl T.b_enumerate (@pa_consN _ _ _ _ _ (@pv _ 3 _ _ (by rfl) (Or.inr (Or.inl rfl)) (by decide) (by decide)) (@pa_nil _) (by rfl)) (by rfl)) (fun z=>(@pg_tup _ _ _ _ _ (2) rfl (@pgs_cons _ _ _ _ _ (@pg_name _ _ (1) _ xeb.nd rfl (Or.inl rfl) (by exact .inr rfl)) (@pgs_cons _ _ _ _ _ (@pg_name _ _ (2) _ xeb.nd rfl (Or.inl rfl) (by exact .inr rfl)) (@pgs_nil _) (by rfl)) (by rfl)) (by rfl) (by rfl))) (sets_two _ _ 1 2) (by decide) (fun z=>(@pif_one _ _ _ (@pt_cmp _ _ _ _ _ _ (@pc_dnotin _ _ _ _ _ hr.units2 (@pv _ 1 _ _ (by rfl) (by exact .inl rfl) (by decide) (by decide)) (@pv _ 0 _ _ (by rfl) (by exact .inr (.inl rfl)) (by decide) (by decide))) (by with_unfolding_all rfl)))) (fun z=>(@pv _ 2 _ _ (by rfl) (by exact .inl rfl) (by decide) (by decide))) (by intro _; rfl)) (by rfl) (Or.inl rfl)))))) (@pss_nil _)))) (by intro _; rfl)) (@pss_one _ _ _ (@ps_ret _ _ _ _ (@pv _ 2 _ _ (by rfl) (Or.inl rfl) (by decide) (by decide))))))),?_⟩
  refine ⟨(by show 0 ≤ sizeLine; decide),fun ma hma=>?_⟩
  dsimp only [gName]
  refine ⟨(by show 0 ≤ sizeLine; decide),fun he hhe=>?_⟩
  dsimp only [gName]
  have s1:=same_new hma (.lst [])
  have s2:=same_new hhe (.lst [])
  have hmah:he ≠ ma:=fun z=>by rw [z,upd_same] at hhe; cases hhe
  refine ⟨_,rfl,l,rfl,⟨_,SqL.of (s2 _ _ (s1 _ _ hL))⟩,for_list (K:=K) (a:=l) (xs:=as.map V.ref) (WG A l xs q p gs H) ⟨none,none,none,ma,he,[],[],[],[],rfl,(s1.trans s2).sameT,hT.same (s1.trans s2),hma,s1.free hhe,hmah.symm,by rw [upd_ne hmah.symm]; exact upd_same,.nil,upd_same,.nil,⟨fun g z=>(nomatch z),fun g z=>(nomatch z),.refl _,by simp,by show 0 + 2 ≤ _; omega,.inl rfl⟩⟩ ?_ ?_ ?_⟩
  · rintro i σ H' hi ⟨v4,v5,v6,ma,he,ms,hs,made,held,rfl,sH,hT',hma,hhe,hne,hM,hMP,hE,hEP,hI⟩
    exact SqL.of (hT.lst sH hL)
  · rintro i x σ H' hx' ⟨v4,v5,v6,ma,he,ms,hs,made,held,rfl,sH,hT',hma,hhe,hne,hM,hMP,hE,hEP,hI⟩
    rw [List.getElem?_map] at hx'
    obtain ⟨b,hb,rfl⟩:=Option.map_eq_some_iff.mp hx'
    have hi:i < gs.length:=by
      have:=(List.getElem?_eq_some_iff.mp hb).1
      omega
    obtain ⟨b',hb',hg⟩:=Paired.get' hPd i gs[i] (List.getElem?_eq_getElem hi)
    rw [hb] at hb'
    cases hb'
    have hI1:=hI.push (List.getElem?_eq_getElem hi) (hG.each _ (List.getElem_mem hi))
    have hEP1:=pairedSnoc hEP (hg.sameT hT sH)
    generalize hheld:held ++ [gs[i]] = held1 at hI1 hEP1
    generalize hhs:hs ++ [b] = hs1 at hEP1
    have hhl:hs1.length = held1.length:=hEP1.length
    have hsz:held1.length ≤ 63:=by have:=hI1.lt; omega
    dsimp only [gName]
    refine ⟨_,rfl,.inl ⟨rfl,_,SqL.of hE⟩,_,rfl,he,_,_,rfl,rfl,hE,?_,?_⟩
    · rw [List.length_map]
      have:=hEP.length
      have:=hI.lt
      exact small1000 (by omega)
    rw [show hs.map V.ref ++ [V.ref b] = hs1.map V.ref by rw [← hhs,List.map_append]; rfl]
    have hT1:Tb A (upd H' he (.lst (hs1.map V.ref))):=hT'.put hE
    have sH1:SameT A.lt_picked H (upd H' he (.lst (hs1.map V.ref))):=sameT_put sH hhe
    have hM1:(upd H' he (.lst (hs1.map V.ref))) ma = some (.lst (ms.map V.ref)):=by rw [upd_ne hne]; exact hM
    have hE1:(upd H' he (.lst (hs1.map V.ref))) he = some (.lst (hs1.map V.ref)):=upd_same
    have hMP1:Paired (GrpAt (upd H' he (.lst (hs1.map V.ref)))) ms made:=Paired.mapP hMP fun _ _ h=>h.put hE
    have hEP1:Paired (GrpAt (upd H' he (.lst (hs1.map V.ref)))) hs1 held1:=Paired.mapP hEP1 fun _ _ h=>h.put hE
    generalize upd H' he (.lst (hs1.map V.ref)) = H1 at hT1 sH1 hM1 hE1 hMP1 hEP1 ⊢
    refine ⟨_,rfl,he,_,rfl,.inl (SqL.of hE1),_,rfl,_,_,rfl,rfl,.inl ⟨by omega,by omega⟩,_,_,rfl,rfl,_,_,rfl,rfl,_,rfl,?_⟩
    rw [List.length_map,hhl]
    by_cases hq:((held1.length:Nat):Int) = 2 * (p:Int) - 1
    · rw [decT hq]
      have hlen1:held1.length + 1 = 2 * p:=by omega
      have aE:∀ {j:Nat},j < held1.length → atI (hs1.map V.ref) (j:Int) = some (.ref (hs1.getD j 0)):=fun {j} h=>by
        refine atI_nat ?_
        rw [List.getElem?_map,List.getD_eq_getElem?_getD,List.getElem?_eq_getElem (show j < hs1.length by omega)]
        rfl
      refine iteT ⟨_,rfl,he,rfl,⟨_,SqL.of hE1⟩,comp_list (K:=K) (a:=he) (xs:=hs1.map V.ref) (fun i ys H2=>H2 = H1 ∧ ys = ((held1.take i).map (·.1)).map V.int) ⟨rfl,rfl⟩ (by rw [List.length_map]; exact Nat.le_of_lt (small1000 (by omega))) ?_ ?_ ?_⟩
      · rintro i ys H2 hi ⟨rfl,rfl⟩
        rw [List.length_map] at hi
        exact ⟨SqL.of hE1,by rw [List.length_map,List.length_map,List.length_take]; omega⟩
      · rintro i x ys H2 hx ⟨rfl,rfl⟩
        rw [List.getElem?_map] at hx
        obtain ⟨c,hc,rfl⟩:=Option.map_eq_some_iff.mp hx
        have hi:i < held1.length:=by
          have:=(List.getElem?_eq_some_iff.mp hc).1
          omega
        obtain ⟨c',hc',pl,g1,g2,g3⟩:=Paired.get' hEP1 i held1[i] (List.getElem?_eq_getElem hi)
        rw [hc] at hc'
        cases hc'
        refine ⟨c,_,rfl,SqT.of g1,rfl,_,_,rfl,_,_,rfl,rfl,_,rfl,rfl,?_⟩
        rw [take_snoc (List.getElem?_eq_getElem hi),List.map_append,List.map_append]
        rfl
      rintro ys H2 ⟨rfl,rfl⟩ n1 hn1
      rw [List.length_map,hhl,List.take_length]
      have sN:=same_new hn1 (.lst ((held1.map (·.1)).map V.int))
      refine ⟨_,rfl,n1,held1.map (fun (g:Gr)=>g.1),p,rfl,upd_same,by rw [List.length_map]; omega,hP,hp,hT1.same sN,fun l5 ks H3 s3 hT3 hl5 hks hpick=>?_⟩
      have hTN:Tb A (upd H2 n1 (.lst ((held1.map (·.1)).map V.int))):=hT1.same sN
      have s23:SameT A.lt_picked H2 H3:=sN.sameT.trans s3
      have hMN:=sN _ _ hM1
      have hM3:=hT1.lst s23 hM1
      have hE3:=hT1.lst s23 hE1
      have hMP3:Paired (GrpAt H3) ms made:=Paired.mapP hMP1 fun _ _ h=>h.sameT hT1 s23
      have hEP3:Paired (GrpAt H3) hs1 held1:=Paired.mapP hEP1 fun _ _ h=>h.sameT hT1 s23
      have sH3:SameT A.lt_picked H H3:=sH1.trans s23
      have hlt:∀ j ∈ ks,j < held1.length:=fun j z=>by have:=hpick.lt j z; rw [List.length_map] at this; exact this
      clear sN hTN s3
      dsimp only [gName]
      refine ⟨_,rfl,.inl ⟨rfl,_,SqL.of hM3⟩,_,rfl,l5,rfl,⟨_,hks.seq⟩,comp_list (K:=K) (a:=l5) (xs:=ks.map fun (k:Nat)=>V.int k) (fun i ys H4=>H4 = H3 ∧ ys = ((ks.take i).map fun k=>hs1.getD k 0).map V.ref) ⟨rfl,rfl⟩ (by rw [List.length_map,hpick.len]; exact Nat.le_of_lt (small1000 (by omega))) ?_ ?_ ?_⟩
      · rintro i ys H4 hi ⟨rfl,rfl⟩
        rw [List.length_map] at hi
        exact ⟨hks.seq,by rw [List.length_map,List.length_map,List.length_take]; omega⟩
      · rintro i x ys H4 hx ⟨rfl,rfl⟩
        rw [List.getElem?_map] at hx
        obtain ⟨c,hc,rfl⟩:=Option.map_eq_some_iff.mp hx
        refine ⟨_,rfl,_,rfl,he,_,_,_,rfl,rfl,SqL.of hE3,aE (hlt c (List.mem_of_getElem? hc)),rfl,?_⟩
        rw [take_snoc hc,List.map_append,List.map_append]
        rfl
      rintro ys H4 ⟨rfl,rfl⟩ n2 hn2
      rw [List.length_map,List.take_length]
      have sN:=same_new hn2 (.lst ((ks.map fun k=>hs1.getD k 0).map V.ref))
      have hPG:Paired (GrpAt H4) (ks.map fun k=>hs1.getD k 0) (ks.map fun k=>held1.getD k (0,[])):=pairedMap fun j hj=>pairedAt hEP3 (hlt j hj)
      have hpp:=pick_perm (d:=(0,[])) hpick.nd hlt
      have hfl:((ks.map fun k=>held1.getD k (0,[])).flatMap (·.2)).length ≤ 1000:=by
        have f1:=(hpp.flatMap_right (·.2)).length_eq
        rw [List.flatMap_append,List.length_append] at f1
        have f2:=hI1.perm.length_eq
        rw [List.length_append] at f2
        have f3:((gs.take (i + 1)).flatMap (·.2)).length ≤ (gs.flatMap (·.2)).length:=flat_take_le
        have f4:(gs.flatMap (·.2)).length ≤ xs.length:=Egz.nat_len xs.length _ hG.nd hG.lt
        omega
      refine ⟨_,rfl,n2,ks.map (fun k=>hs1.getD k 0),ks.map (fun k=>held1.getD k (0,[])),p,rfl,upd_same,Paired.mapP hPG fun _ _ h=>h.same sN,?_,by omega,by omega,hfl,fun b2 H5 s5 hb2 hg2=>?_⟩
      · intro z
        have:=congrArg List.length z
        rw [List.length_map,hpick.len,List.length_nil] at this
        omega
      have s45:Same H4 H5:=sN.trans s5
      have hM5:=s45 _ _ hM3
      refine ⟨ma,_,_,rfl,rfl,hM5,?_,?_⟩
      · rw [List.length_map,hMP.length]
        have:=hI1.cnt
        have:1 * made.length ≤ p * made.length:=Nat.mul_le_mul_right _ (by omega)
        exact small1000 (by omega)
      rw [show ms.map V.ref ++ [V.ref b2] = (ms ++ [b2]).map V.ref by rw [List.map_append]; rfl]
      have sH5:SameT A.lt_picked H H5:=sH3.trans s45.sameT
      have hT5:Tb A H5:=hT3.same s45
      have hT6:Tb A (upd H5 ma (.lst ((ms ++ [b2]).map V.ref))):=hT5.put hM5
      have sH6:SameT A.lt_picked H (upd H5 ma (.lst ((ms ++ [b2]).map V.ref))):=sameT_put sH5 hma
      have hM6:(upd H5 ma (.lst ((ms ++ [b2]).map V.ref))) ma = some (.lst ((ms ++ [b2]).map V.ref)):=upd_same
      have hE6:(upd H5 ma (.lst ((ms ++ [b2]).map V.ref))) he = some (.lst (hs1.map V.ref)):=by rw [upd_ne hne.symm]; exact s45 _ _ hE3
      have hlm:l5 ≠ ma:=fun z=>by rw [z,hMN] at hl5; cases hl5
      have hk6:NatsAt (upd H5 ma (.lst ((ms ++ [b2]).map V.ref))) l5 ks:=by
        unfold NatsAt
        rw [upd_ne hlm]
        exact s45 _ _ hks
      have hMP6:Paired (GrpAt (upd H5 ma (.lst ((ms ++ [b2]).map V.ref)))) (ms ++ [b2]) (made ++ [(((ks.map fun k=>held1.getD k (0,[])).map (·.1)).sum / (p:Int),(ks.map fun k=>held1.getD k (0,[])).flatMap (·.2))]):=pairedSnoc (Paired.mapP hMP3 fun _ _ h=>(h.same s45).put hM5) (hg2.put hM5)
      have hEP6:Paired (GrpAt (upd H5 ma (.lst ((ms ++ [b2]).map V.ref)))) hs1 held1:=Paired.mapP hEP3 fun _ _ h=>(h.same s45).put hM5
      generalize upd H5 ma (.lst ((ms ++ [b2]).map V.ref)) = H6 at hT6 sH6 hM6 hE6 hk6 hMP6 hEP6 ⊢
      refine ⟨_,rfl,l5,rfl,⟨_,hk6.seq⟩,comp_list (K:=K) (a:=l5) (xs:=ks.map fun (k:Nat)=>V.int k) (fun i ys H7=>Same H6 H7 ∧ ∃ ts:List Addr,ys = ts.map V.ref ∧ Paired (fun t (kv:Int × V)=>H7 t = some (.tup [.int kv.1,kv.2])) ts ((ks.take i).map fun (k:Nat)=>((k:Int),V.bl true))) ⟨Same.refl _,[],rfl,.nil⟩ (by rw [List.length_map,hpick.len]; exact Nat.le_of_lt (small1000 (by omega))) ?_ ?_ ?_⟩
      · rintro i ys H7 hi ⟨s7,ts,rfl,ht⟩
        rw [List.length_map] at hi
        have:=ht.length
        rw [List.length_map,List.length_take] at this
        exact ⟨SqL.of (s7 _ _ hk6),by rw [List.length_map]; omega⟩
      · rintro i x ys H7 hx ⟨s7,ts,rfl,ht⟩
        rw [List.getElem?_map] at hx
        obtain ⟨c,hc,rfl⟩:=Option.map_eq_some_iff.mp hx
        refine ⟨_,rfl,(by show 2 ≤ sizeLine; decide),fun t ht0=>⟨s7.trans (same_new ht0 _),ts ++ [t],by rw [List.map_append]; rfl,?_⟩⟩
        rw [take_snoc hc,List.map_append]
        exact pairedSnoc (Paired.mapP ht fun u kv h=>(same_new ht0 _) _ _ h) upd_same
      rintro ys H7 ⟨s7,ts,rfl,ht⟩ n3 hn3
      rw [List.length_map,List.take_length] at ht
      have sN3:=same_new hn3 (.lst (ts.map V.ref))
      refine ⟨n3,ts,_,rfl,upd_same,Paired.mapP ht fun u kv h=>sN3 _ _ h,by rw [List.length_map,hpick.len]; omega,fun d hd=>?_⟩
      rw [mkD_dtr hpick.nd]
      have s69:=(s7.trans sN3).trans (same_new hd (.dK (dtr ks)))
      have hD9:(upd (upd H7 n3 (.lst (ts.map V.ref))) d (.dK (dtr ks))) d = some (.dK (dtr ks)):=upd_same
      generalize upd (upd H7 n3 (.lst (ts.map V.ref))) d (.dK (dtr ks)) = H9 at s69 hD9 ⊢
      have s69:Same H6 H9:=s69
      have hE9:=s69 _ _ hE6
      dsimp only [gName]
      refine ⟨_,rfl,he,rfl,⟨_,.inl hE9⟩,comp_enumF (K:=K) (a:=he) (xs:=hs1.map V.ref) (fun i ys H'=>Same H9 H' ∧ ys = ((unp i ks).map fun k=>hs1.getD k 0).map V.ref) ⟨Same.refl _,rfl⟩ (by rw [List.length_map]; exact Nat.le_of_lt (small1000 (by omega))) ?_ ?_ ?_⟩
      · rintro i ys H' hi ⟨sX,rfl⟩
        refine ⟨SqL.of (sX _ _ hE9),?_⟩
        rw [List.length_map,List.length_map]
        have:=List.length_filter_le (fun i=>!decide (i ∈ ks)) (List.range i)
        rw [List.length_range] at this
        exact this
      · rintro i x ys H' r hx ⟨sX,rfl⟩ hr0
        rw [List.getElem?_map] at hx
        obtain ⟨c,hc,rfl⟩:=Option.map_eq_some_iff.mp hx
        have hgd:hs1.getD i 0 = c:=by rw [List.getD_eq_getElem?_getD,hc]; rfl
        have eu:unp (i + 1) ks = unp i ks ++ (if i ∈ ks then [] else [i]):=by
          unfold unp
          rw [List.range_succ,List.filter_append]
          congr 1
          by_cases hm:i ∈ ks
          · rw [if_pos hm,List.filter_cons_of_neg (by simp [hm])]
            rfl
          · rw [if_neg hm,List.filter_cons_of_pos (by simp [hm])]
            rfl
        have sY:=sX.trans (same_new hr0 (.tup [.int (i:Nat),.ref c]))
        refine ⟨r,_,rfl,SqT.of upd_same,rfl,_,_,rfl,_,_,rfl,rfl,_,rfl,_,rfl,d,_,rfl,DGet.k (k:=Sum.inl (i:Int)) (sY _ _ hD9),_,rfl,?_⟩
        rw [dtr_val]
        by_cases hm:i ∈ ks
        · rw [decT hm]
          refine iteF ⟨sY,?_⟩
          rw [eu,if_pos hm,List.append_nil]
        · rw [decF hm]
          refine iteT ⟨_,rfl,sY,?_⟩
          rw [eu,if_neg hm,List.map_append,List.map_append,List.map_singleton,List.map_singleton,hgd]
      rintro ys H' ⟨sX,rfl⟩ he2 hhe2
      rw [List.length_map,hhl]
      have sN9:=same_new hhe2 (.lst (((unp held1.length ks).map fun k=>hs1.getD k 0).map V.ref))
      have sF:=(s69.trans sX).trans sN9
      refine ⟨_,_,_,ma,he2,ms ++ [b2],(unp held1.length ks).map fun k=>hs1.getD k 0,_,(unp held1.length ks).map fun k=>held1.getD k (0,[]),rfl,sH6.trans sF.sameT,hT6.same sF,hma,?_,?_,sF _ _ hM6,Paired.mapP hMP6 fun _ _ h=>h.same sF,upd_same,?_,hI1.pick (by omega) hlen1 hpick⟩
      · exact Tb.free (hT6.same (s69.trans sX)) (sH6.trans (s69.trans sX).sameT) hhe2
      · intro z
        have:=(s69.trans sX) _ _ hM6
        rw [z,hhe2] at this
        cases this
      · refine pairedMap fun j hj=>?_
        refine (pairedAt hEP6 ?_).same sF
        unfold unp at hj
        exact List.mem_range.mp (List.mem_filter.mp hj).1
    · rw [decF hq]
      exact iteF ⟨_,_,_,ma,he,ms,hs1,made,held1,rfl,sH1,hT1,hma,hhe,hne,hM1,hMP1,hE1,hEP1,hI1.keep (by omega)⟩
  · rintro σ H' ⟨v4,v5,v6,ma,he,ms,hs,made,held,rfl,sH,hT',hma,hhe,hne,hM,hMP,hE,hEP,hI⟩
    rw [List.length_map,hal] at hI
    obtain ⟨d1,d2⟩:=hI.done hG (by omega) hm hgl
    exact ⟨_,rfl,k ma ms made H' sH hT' hma hM hMP d1 d2⟩
end
end W05
set_option Elab.async false
set_option linter.all false
set_option maxRecDepth 100000
namespace W05
open PySem L2
section
variable {P:Program} {w:World} {K:PySem.W.Frag} {mg:Str → Option Value} {base:Heap} {A:Adr}
theorem perm_sum {l₁ l₂:List Nat} (f:Nat → Int) (h:l₁.Perm l₂):(l₁.map f).sum = (l₂.map f).sum:=by
  induction h with
  | nil=>rfl
  | cons x _ ih=>rw [List.map_cons,List.map_cons,List.sum_cons,List.sum_cons,ih]
  | swap x y l=>rw [List.map_cons,List.map_cons,List.map_cons,List.map_cons,List.sum_cons,List.sum_cons,List.sum_cons,List.sum_cons]; omega
  | trans _ _ h1 h2=>rw [h1,h2]
def gs0 (xs:List Int) (i:Nat):List Gr:=(List.range i).map fun i=>(xs.getD i 0,[i])
theorem gs0_flat {xs:List Int} {i:Nat}:(gs0 xs i).flatMap (·.2) = List.range i:=by
  unfold gs0
  rw [List.flatMap_map]
  induction i with
  | zero=>rfl
  | succ i ih =>
    rw [List.range_succ,List.flatMap_append,ih]
    simp
theorem gs0_grp {xs:List Int}:Egz.Grp xs 1 (gs0 xs xs.length):=by
  refine ⟨fun g hg=>?_,by rw [gs0_flat]; exact List.nodup_range,fun k hk=>by rw [gs0_flat] at hk; exact List.mem_range.mp hk⟩
  unfold gs0 at hg
  obtain ⟨i,_,rfl⟩:=List.mem_map.mp hg
  refine ⟨rfl,?_⟩
  show (xs.getD i 0 + 0:Int) = ((1:Nat):Int) * xs.getD i 0
  rw [Int.add_zero]
  exact (Int.one_mul _).symm
structure Chs (xs:List Int) (ks:List Nat):Prop where
  up:ks.Pairwise (· < ·)
  lt:∀ k ∈ ks,k < xs.length
  half:2 * ks.length = xs.length + 1
  sum:(ks.map fun k=>xs.getD k 0).sum % ((ks.length:Nat):Int) = 0
theorem chs_of {xs:List Int} {q:Nat} {g:Gr} (hG:Egz.Grp xs q [g]) (hq:2 * q = xs.length + 1) {ns:List Int} (hp:ns.Perm (g.2.map fun (k:Nat)=>(k:Int))) (hs:ns.Pairwise (· ≤ ·)):∃ ks:List Nat,ns = ks.map (fun (k:Nat)=>(k:Int)) ∧ Chs xs ks:=by
  have h0:∀ n ∈ ns,0 ≤ n:=fun n hn=>by
    obtain ⟨k,_,rfl⟩:=List.mem_map.mp (hp.mem_iff.mp hn)
    exact Int.natCast_nonneg k
  have e:ns = (ns.map Int.toNat).map (fun (k:Nat)=>(k:Int)):=by
    rw [List.map_map]
    refine Eq.symm ((List.map_congr_left fun n hn=>?_).trans (List.map_id _))
    show ((n.toNat:Nat):Int) = n
    have:=h0 n hn
    omega
  have hp2:(ns.map Int.toNat).Perm g.2:=by
    have:=hp.map Int.toNat
    rw [List.map_map] at this
    refine this.trans (List.Perm.of_eq ?_)
    refine (List.map_congr_left fun k _=>?_).trans (List.map_id _)
    show ((k:Int)).toNat = k
    omega
  have hf:([g].flatMap (·.2):List Nat) = g.2:=by simp
  have nd:(ns.map Int.toNat).Nodup:=hp2.nodup_iff.mpr (by have:=hG.nd; rw [hf] at this; exact this)
  obtain ⟨e1,e2⟩:=hG.each g (List.mem_singleton.mpr rfl)
  have hlen:(ns.map Int.toNat).length = q:=hp2.length_eq.trans e1
  refine ⟨ns.map Int.toNat,e,?_,fun k hk=>hG.lt k (by rw [hf]; exact hp2.mem_iff.mp hk),by rw [hlen]; exact hq,?_⟩
  · have hs2:(ns.map Int.toNat).Pairwise (· ≤ ·):=by
      rw [List.pairwise_map]
      exact hs.imp fun {a b} h=>by omega
    have:=List.Pairwise.and hs2 (List.nodup_iff_pairwise_ne.mp nd)
    exact this.imp fun {a b} h=>by have:=h.1; have:=h.2; omega
  · rw [perm_sum _ hp2,e2,hlen,Int.mul_emod_right]
def xjZ (A:Adr):Sp:=fun vs H Q E=>∃ (a:Addr) (xs:List Int),vs = [.ref a] ∧ LstAt H a xs ∧ NsOk xs ∧ xs.length ≤ 63 ∧ Tb A H ∧ (xs.length % 2 = 0 → ∀ ea H',Same H H' → H' ea = none → E (.ref A.xhB) (some ea) H') ∧
  (∀ b (ks:List Nat) H',xs.length % 2 = 1 → SameT A.lt_picked H H' → Tb A H' → H b = none → NatsAt H' b ks → Chs xs ks → Q (.ref b) H')
theorem xjN (T:Txt K mg A):FnOk P w K mg base (CXx P w) 8 A.xj5 A.xj9 ["numbers"] (xjZ A):=by
  have xiW:=xir (P:=P) (w:=w) (base:=base) T
  have xfH:=xfc (P:=P) (w:=w) (base:=base) T
  have xdk:=xcW (P:=P) (w:=w) (base:=base) T
  refine T.xj1.okx xjV (fun vs H Q E h=>?_) (fun cdv Ar outer s H vs Q E hr h=>?_)
  · obtain ⟨a,xs,rfl,_⟩:=h
    rfl
  obtain ⟨a,xs,rfl,hA,hO,hL,hT,q1,q2⟩:=h
  refine ⟨_,(@pss_cons _ _ _ _ _ (@ps_if _ _ _ _ _ _ _ _ (@pt_not _ _ _ _ (@pt_val _ _ _ (@pe_call _ _ _ _ _ _ _ _ _ _ _ _ _ _ _ _ xdk (hr.mono (by decide)) rfl T.xdY T.xdS T.xcj .nil pass0 (@pa_consN _ _ _ _ _ (@pv _ 0 _ _ (by rfl) (Or.inl rfl) (by decide) (by decide)) (@pa_nil _) (by rfl)) (by decide) (by rfl) (by rfl)) (by intro _; rfl))) (@pss_one _ _ _ (@ps_raise _ _ leaves_cx rfl _ _ _ _ _ _ _ _ rfl T.xeZ T.xdF (by decide))) (@pss_nil _)) (@pss_cons _ _ _ _ _ (@ps_if _ _ _ _ _ _ _ _ (@pt_cmpR _ _ _ _ _ _ _ _ op_eqI (@pe_op _ _ _ _ _ _ _ _ op_mod (@pe_callB _ _ _ _ _ _ _ _ _ call_len_seq rfl T.b_len B.len (@pa_consN _ _ _ _ _ (@pv _ 0 _ _ (by rfl) (Or.inl rfl) (by decide) (by decide)) (@pa_nil _) (by rfl)) (by decide) (by decide) (by rfl) (by rfl)) (@pe_int _ _ _ _)) (@pe_int _ _ _ _) (nomark _)) (@pss_one _ _ _ (@ps_raise _ _ leaves_cx rfl _ _ _ _ _ _ _ _ rfl T.xic T.xgf (by decide))) (@pss_nil _)) (@pss_cons _ _ _ _ _ (@ps_setComp0 _ _ (["place", "number"]) ([none,none]) _ _ _ _ _ _ _ _ (1) _ _ _ xjV.nd rfl rfl xfk rfl (@pi_enum _ _ _ _ _ _ _ _ rfl T.b_enumerate (@pa_consN _ _ _ _ _ (@pv _ 0 _ _ (by rfl) (Or.inl rfl) (by decide) (by decide)) (@pa_nil _) (by rfl)) (by rfl)) (fun z=>(@pg_tup _ _ _ _ _ (2) rfl (@pgs_cons _ _ _ _ _ (@pg_name _ _ (0) _ xfk.nd rfl (Or.inl rfl) (by exact .inr rfl)) (@pgs_cons _ _ _ _ _ (@pg_name _ _ (1) _ xfk.nd rfl (Or.inl rfl) (by exact .inr rfl)) (@pgs_nil _) (by rfl)) (by rfl)) (by rfl) (by rfl))) (sets_two _ _ 0 1) (by decide) (fun z=>(@pe_tup _ _ _ _ _ (@pa_consN _ _ _ _ _ (@pv _ 1 _ _ (by rfl) (by exact .inl rfl) (by decide) (by decide)) (@pa_consN _ _ _ _ _ (@pe_lst _ _ _ _ (@pa_consN _ _ _ _ _ (@pv _ 0 _ _ (by rfl) (by exact .inl rfl) (by decide) (by decide)) (@pa_nil _) (by rfl))) (@pa_nil _) (by rfl)) (by rfl)))) (by rfl) (by intro _; rfl)) (@pss_cons _ _ _ _ _ (@ps_calm _ _ _ (@ps_for _ _ _ _ _ _ _ _ PassesOwn.never rfl (@pi_list _ _ _ _ (@pe_call _ _ _ _ _ _ _ _ _ _ _ _ _ _ _ _ xfH (hr.mono (by decide)) rfl T.xgG T.xgx T.xeA .nil pass0 (@pa_consN _ _ _ _ _ (@pe_op _ _ _ _ _ _ _ _ op_fdiv (@pe_op _ _ _ _ _ _ _ _ op_add (@pe_callB _ _ _ _ _ _ _ _ _ call_len_seq rfl T.b_len B.len (@pa_consN _ _ _ _ _ (@pv _ 0 _ _ (by rfl) (Or.inl rfl) (by decide) (by decide)) (@pa_nil _) (by rfl)) (by decide) (by decide) (by rfl) (by rfl)) (@pe_int _ _ _ _)) (@pe_int _ _ _ _)) (@pa_nil _) (by rfl)) (by decide) (by rfl) (by rfl))) (@pg_name _ _ (2) _ xjV.nd rfl (Or.inl rfl) (Or.inl rfl)) (@pss_one _ _ _ (@ps_set _ _ (1) _ _ _ _ xjV.nd rfl (Or.inl rfl) (@pe_call _ _ _ _ _ _ _ _ _ _ _ _ _ _ _ _ xiW (hr.mono (by decide)) rfl T.xjG T.xjw T.xhy .nil pass0 (@pa_consN _ _ _ _ _ (@pv _ 1 _ _ (by rfl) (Or.inl rfl) (by decide) (by decide)) (@pa_consN _ _ _ _ _ (@pv _ 2 _ _ (by rfl) (Or.inl rfl) (by decide) (by decide)) (@pa_nil _) (by rfl)) (by rfl)) (by decide) (by rfl) (by rfl)) (by rfl) (Or.inl rfl))) (by intro _; rfl))) (@pss_one _ _ _ (@ps_ret _ _ _ _ (@pe_callB _ _ _ _ _ _ _ _ _ call_sortedI rfl T.b_sorted B.sorted (@pa_consN _ _ _ _ _ (@pe_ix _ _ _ _ _ _ _ ix_tup (@pe_ix _ _ _ _ _ _ _ ix_list (@pv _ 1 _ _ (by rfl) (Or.inl rfl) (by decide) (by decide)) (@pe_int _ _ _ _) (fun _ _=>rfl)) (@pe_int _ _ _ _) (fun _ _=>rfl)) (@pa_nil _) (by rfl)) (by decide) (by decide) (by rfl) (by rfl)))))))),?_⟩
  refine ⟨_,rfl,a,xs,rfl,hA,hO,by omega,fun H1 s1=>⟨_,rfl,iteF ?_⟩⟩
  have hA1:=Same.lst s1 hA
  refine ⟨_,rfl,a,xs.map V.int,rfl,.inl hA1.ints,_,_,rfl,rfl,by omega,_,_,rfl,rfl,_,rfl,?_⟩
  rw [List.length_map]
  by_cases h0:((xs.length:Nat):Int) % 2 = 0
  · rw [decT h0]
    exact iteT fun ea he=>q1 (by omega) ea H1 s1 he
  rw [decF h0]
  have hodd:xs.length % 2 = 1:=by omega
  have hT1:Tb A H1:=hT.same s1
  refine iteF ⟨_,rfl,a,rfl,⟨_,.inl hA1⟩,comp_enum (K:=K) (a:=a) (xs:=xs.map V.int) (fun i ys H2=>Same H1 H2 ∧ ∃ as:List Addr,ys = as.map V.ref ∧ Paired (GrpAt H2) as (gs0 xs i)) ⟨Same.refl _,[],rfl,.nil⟩ (by rw [List.length_map]; exact Nat.le_of_lt (small1000 (by omega))) ?_ ?_ ?_⟩
  · rintro i ys H2 hi ⟨s2,as,rfl,hP⟩
    have:=hP.length
    unfold gs0 at this
    rw [List.length_map,List.length_range] at this
    exact ⟨(Same.lst s2 hA1).ints,by rw [List.length_map]; exact this⟩
  · rintro i x ys H2 r hx ⟨s2,as,rfl,hP⟩ hr0
    obtain ⟨n,hn,rfl⟩:=ints_get hx
    have sr:=same_new hr0 (.tup [.int (i:Nat),.int n])
    refine ⟨r,_,rfl,SqT.of upd_same,rfl,_,_,rfl,_,_,rfl,rfl,_,rfl,_,rfl,(by show 1 ≤ sizeLine; decide),fun pl hpl=>⟨(by show 2 ≤ sizeLine; decide),fun b hb=>?_⟩⟩
    have s3:=(sr.trans (same_new hpl (.lst [V.int (i:Nat)])))
    have s4:=s3.trans (same_new hb (.tup [.int n,.ref pl]))
    refine ⟨s2.trans s4,as ++ [b],by rw [List.map_append]; rfl,?_⟩
    have e:gs0 xs (i + 1) = gs0 xs i ++ [(n,[i])]:=by
      unfold gs0
      rw [List.range_succ,List.map_append,List.map_singleton,List.getD_eq_getElem?_getD,hn]
      rfl
    rw [e]
    refine pairedSnoc (Paired.mapP hP fun _ _ h=>h.same s4) ⟨pl,upd_same,?_,by simp⟩
    exact (same_new hb _) _ _ upd_same
  rintro ys H2 ⟨s2,as,rfl,hP⟩ gl hgl
  rw [List.length_map] at hP
  have sG:=same_new hgl (.lst (as.map V.ref))
  have hGl:(upd H2 gl (.lst (as.map V.ref))) gl = some (.lst (as.map V.ref)):=upd_same
  have hP:Paired (GrpAt (upd H2 gl (.lst (as.map V.ref)))) as (gs0 xs xs.length):=Paired.mapP hP fun _ _ h=>h.same sG
  have s13:Same H1 (upd H2 gl (.lst (as.map V.ref))):=s2.trans sG
  generalize upd H2 gl (.lst (as.map V.ref)) = H3 at hGl hP s13 ⊢
  have s13:Same H1 H3:=s13
  have hA3:=Same.lst s13 hA1
  have hT3:Tb A H3:=hT1.same s13
  dsimp only [gName]
  have hn:((((xs.map V.int).length:Nat):Int) + 1) / 2 = (((xs.length + 1) / 2:Nat):Int):=by rw [List.length_map]; omega
  refine ⟨_,rfl,a,_,rfl,.inl hA3.ints,_,_,rfl,rfl,_,_,rfl,rfl,⟨by omega,by omega⟩,(xs.length + 1) / 2,by show [V.int (((((xs.map V.int).length:Nat):Int) + 1) / 2)] = _; rw [hn],by omega,by omega,fun pl ps H4 s4 hpl hps hprod hPr hpsl=>?_⟩
  have hGl4:=s4 _ _ hGl
  have hP4:Paired (GrpAt H4) as (gs0 xs xs.length):=Paired.mapP hP fun _ _ h=>h.same s4
  have hT4:Tb A H4:=hT3.same s4
  have s14:SameT A.lt_picked H H4:=((s1.trans s13).trans s4).sameT
  have g0l:(gs0 xs xs.length).length = xs.length:=by unfold gs0; rw [List.length_map,List.length_range]
  refine ⟨pl,rfl,⟨_,hps.ints⟩,for_list (K:=K) (a:=pl) (xs:=(ps.map Int.ofNat).map V.int) (fun i σ H'=>∃ (v:Option V) (gl:Addr) (as:List Addr) (gs:List Gr) (q:Nat),σ = [some (.ref a),some (.ref gl),v] ∧ SameT A.lt_picked H4 H' ∧ Tb A H' ∧ H' gl = some (.lst (as.map V.ref)) ∧ Paired (GrpAt H') as gs ∧ Egz.Grp xs q gs ∧ q * prodN (ps.drop i) = (xs.length + 1) / 2 ∧ gs.length + 1 = 2 * prodN (ps.drop i))
    ⟨none,gl,as,_,1,rfl,SameT.refl,hT4,hGl4,hP4,gs0_grp,by rw [List.drop_zero,hprod,Nat.one_mul],by rw [List.drop_zero,hprod,g0l]; omega⟩ ?_ ?_ ?_⟩
  · rintro i σ H' hi ⟨v,gl,as,gs,q,rfl,sH,hT',hGl,hPd,hG,hq,hl⟩
    exact LstAt.ints (hT4.lst sH hps)
  · rintro i x σ H' hx ⟨v,gl,as,gs,q,rfl,sH,hT',hGl,hPd,hG,hq,hl⟩
    obtain ⟨n,hn,rfl⟩:=ints_get hx
    rw [List.getElem?_map] at hn
    obtain ⟨p,hp,rfl⟩:=Option.map_eq_some_iff.mp hn
    have hpp:=hPr p (List.mem_of_getElem? hp)
    have hp2:=hpp.1
    have hil:=(List.getElem?_eq_some_iff.mp hp).1
    have ed:ps.drop i = p :: ps.drop (i + 1):=by
      rw [List.drop_eq_getElem_cons hil]
      rw [List.getElem?_eq_getElem hil] at hp
      cases hp
      rfl
    rw [ed] at hq hl
    have hm1:1 ≤ prodN (ps.drop (i + 1)):=by
      have:=prodN_ge (ps:=ps.drop (i + 1)) fun r hr=>hPr r (List.mem_of_mem_drop hr)
      omega
    have hq1:1 ≤ q:=by
      rcases Nat.eq_zero_or_pos q with z | z
      · rw [z,Nat.zero_mul] at hq
        omega
      · exact z
    have hpm:prodN (p :: ps.drop (i + 1)) ≤ 32:=by
      have:1 * prodN (p :: ps.drop (i + 1)) ≤ q * prodN (p :: ps.drop (i + 1)):=Nat.mul_le_mul_right _ hq1
      omega
    have hp32:p ≤ 32:=by
      have:p * 1 ≤ p * prodN (ps.drop (i + 1)):=Nat.mul_le_mul_left _ hm1
      have e:prodN (p :: ps.drop (i + 1)) = p * prodN (ps.drop (i + 1)):=rfl
      omega
    dsimp only [gName]
    refine ⟨_,rfl,_,rfl,gl,xs,q,p,prodN (ps.drop (i + 1)),as,gs,rfl,hGl,hPd,hG,hpp,hp32,hm1,hl,by omega,by omega,hT',fun gl' as' gs' H5 s5 hT5 hgl' hGl' hPd' hG' hl'=>?_⟩
    refine ⟨_,gl',as',gs',q * p,rfl,sH.trans s5,hT5,hGl',hPd',hG',?_,hl'⟩
    rw [Nat.mul_assoc]
    exact hq
  · rintro σ H' ⟨v,gl,as,gs,q,rfl,sH,hT',hGl,hPd,hG,hq,hl⟩
    rw [List.drop_of_length_le (by rw [List.length_map,List.length_map]; exact Nat.le_refl _)] at hq hl
    have hq:q = (xs.length + 1) / 2:=by rw [show prodN [] = 1 from rfl] at hq; omega
    have hl:gs.length = 1:=by rw [show prodN [] = 1 from rfl] at hl; omega
    obtain ⟨g,rfl⟩:=List.length_eq_one_iff.mp hl
    cases hPd with
    | @cons b _ as' _ hb hr =>
      cases hr
      obtain ⟨pq,g1,g2,g3⟩:=hb
      have hlen:=(hG.each g (List.mem_singleton.mpr rfl)).1
      refine ⟨_,rfl,gl,_,0,_,rfl,rfl,SqL.of hGl,rfl,b,_,1,_,rfl,rfl,SqT.of g1,rfl,pq,g.2.map (fun (k:Nat)=>(k:Int)),rfl,SqL.of ?_,by rw [List.length_map]; omega,fun l ns hl0 hpm hsd=>?_⟩
      · rw [List.map_map]
        exact g2
      obtain ⟨ks,rfl,hc⟩:=chs_of hG (by omega) hpm hsd
      refine q2 l ks _ hodd ((s14.trans sH).trans (same_new hl0 _).sameT) (hT'.same (same_new hl0 _)) (Tb.free hT' (s14.trans sH) hl0) ?_ hc
      unfold NatsAt
      rw [upd_same,List.map_map]
      rfl
end
end W05
set_option Elab.async false
set_option linter.all false
set_option maxRecDepth 100000
namespace W05
open PySem L2
section
variable {P:Program} {w:World} {K:PySem.W.Frag} {mg:Str → Option Value} {base:Heap} {A:Adr}
theorem atI_int {ns:List Int} {i:Int} (h0:0 ≤ i) (h1:i < ns.length):∃ v,v ∈ ns ∧ atI (ns.map V.int) i = some (.int v):=by
  have hl:i.toNat < ns.length:=by omega
  refine ⟨ns[i.toNat],List.getElem_mem hl,?_⟩
  have z:=atI_nat (xs:=ns.map V.int) (j:=i.toNat) (v:=.int ns[i.toNat]) (by rw [List.getElem?_map,List.getElem?_eq_getElem hl]; rfl)
  rw [show ((i.toNat:Nat):Int) = i by omega] at z
  exact z
def sp_cell_at (K:PySem.W.Frag):Sp:=fun vs H Q _=>∃ (a:Addr) (ns:List Int) (k:Int),vs = [.ref a,.int k] ∧ IntsAt K H a ns ∧ 0 ≤ k ∧ ∀ v,Q (.int v) H
theorem xcX (T:Txt K mg A):FnOk P w K mg base CX0 1 A.xcc A.xcv ["_law_script", "_law_k"] (sp_cell_at K):=by
  refine T.xb6.ok xb0 (fun vs H Q E h=>?_) (fun cdv Ar outer s H vs Q E hr h=>?_)
  · obtain ⟨a,ns,k,rfl,_⟩:=h
    rfl
  obtain ⟨a,ns,k,rfl,ha,hk,q⟩:=h
  refine ⟨_,(@pss_cons _ _ _ _ _ (@ps_if _ _ _ _ _ _ _ _ (@pt_cmpR _ _ _ _ _ _ _ _ op_lt (@pv _ 1 _ _ (by rfl) (Or.inl rfl) (by decide) (by decide)) (@pe_callB _ _ _ _ _ _ _ _ _ call_len_seq rfl T.b_len B.len (@pa_consN _ _ _ _ _ (@pv _ 0 _ _ (by rfl) (Or.inl rfl) (by decide) (by decide)) (@pa_nil _) (by rfl)) (by decide) (by decide) (by rfl) (by rfl)) (nomark _)) (@pss_one _ _ _ (@ps_ret _ _ _ _ (@pe_ix _ _ _ _ _ _ _ ix_list (@pv _ 0 _ _ (by rfl) (Or.inl rfl) (by decide) (by decide)) (@pv _ 1 _ _ (by rfl) (Or.inl rfl) (by decide) (by decide)) (fun _ _=>rfl)))) (@pss_nil _)) (@pss_one _ _ _ (@ps_ret _ _ _ _ (@pe_int _ _ _ _)))),?_⟩
  refine ⟨_,rfl,_,rfl,a,_,rfl,.inl ha,_,_,rfl,rfl,_,rfl,?_⟩
  rw [List.length_map]
  by_cases h1:k < (ns.length:Int)
  · rw [decT h1]
    obtain ⟨v,_,hv⟩:=atI_int hk h1
    exact iteT ⟨_,rfl,_,rfl,a,_,_,_,rfl,rfl,ha,hv,q v⟩
  · rw [decF h1]
    exact iteF (q 0)
def sp_draw:Sp:=fun vs H Q _=>∃ c k m:Int,vs = [.int c,.int k,.int m] ∧ 0 < m ∧ ∀ v H',0 ≤ v → v < m → Same H H' → Q (.int v) H'
theorem draw_prime {i:Int} (h0:0 ≤ i) (h1:i < 16):∃ v:Int,0 < v ∧ atI (List.map V.int [1000003,1000033,1000037,1000039,1000081,1000099,1000117,1000121,1000133,1000151,1000159,1000171,1000183,1000187,1000193,1000199]) i = some (.int v):=by
  obtain ⟨p,hp,ep⟩:=atI_int (ns:=[1000003,1000033,1000037,1000039,1000081,1000099,1000117,1000121,1000133,1000151,1000159,1000171,1000183,1000187,1000193,1000199]) h0 h1
  have:∀ z ∈ ([1000003,1000033,1000037,1000039,1000081,1000099,1000117,1000121,1000133,1000151,1000159,1000171,1000183,1000187,1000193,1000199]:List Int),0 < z:=by decide
  exact ⟨p,this p hp,ep⟩
set_option maxHeartbeats 1000000 in
theorem xgP (T:Txt K mg A):FnOk P w K mg base CX0 1 A.xfI A.xf6 ["_law_cell", "_law_k", "_law_many"] sp_draw:=by
  refine T.xfA.ok xfj (fun vs H Q E h=>?_) (fun cdv Ar outer s H vs Q E hr h=>?_)
  · obtain ⟨c,k,m,rfl,_⟩:=h
    rfl
  obtain ⟨c,k,m,rfl,hm,q⟩:=h
  refine ⟨_,(@pss_cons _ _ _ _ _ (@ps_set _ _ (3) _ _ _ _ xfj.nd rfl (Or.inl rfl) (@pe_tupI _ _ _ _ ([1000003,1000033,1000037,1000039,1000081,1000099,1000117,1000121,1000133,1000151,1000159,1000171,1000183,1000187,1000193,1000199]) rfl) (by rfl) (Or.inl rfl)) (@pss_one _ _ _ (@ps_ret _ _ _ _ (@pe_op _ _ _ _ _ _ _ _ op_mod (@pe_op _ _ _ _ _ _ _ _ op_mod (@pe_op _ _ _ _ _ _ _ _ op_add (@pe_op _ _ _ _ _ _ _ _ op_mul (@pv _ 0 _ _ (by rfl) (Or.inl rfl) (by decide) (by decide)) (@pe_int _ _ _ _)) (@pe_op _ _ _ _ _ _ _ _ op_mul (@pv _ 1 _ _ (by rfl) (Or.inl rfl) (by decide) (by decide)) (@pe_int _ _ _ _))) (@pe_ix _ _ _ _ _ _ _ ix_tup (@pv _ 3 _ _ (by rfl) (Or.inl rfl) (by decide) (by decide)) (@pe_op _ _ _ _ _ _ _ _ op_mod (@pv _ 1 _ _ (by rfl) (Or.inl rfl) (by decide) (by decide)) (@pe_int _ _ _ _)) (fun _ _=>rfl))) (@pv _ 2 _ _ (by rfl) (Or.inl rfl) (by decide) (by decide)))))),?_⟩
  refine ⟨(by show 16 ≤ sizeLine; decide),fun t ht=>?_⟩
  have h0:=Int.emod_nonneg k (show (16:Int) ≠ 0 by decide)
  have h1:=Int.emod_lt_of_pos k (show (0:Int) < 16 by decide)
  obtain ⟨p,hp0,ep⟩:=draw_prime h0 h1
  refine ⟨_,rfl,_,_,rfl,rfl,.inr ⟨by decide,by decide⟩,_,rfl,_,_,rfl,rfl,.inr ⟨by decide,by decide⟩,_,_,rfl,rfl,_,rfl,_,rfl,_,_,rfl,rfl,(by show (0:Int) < 16; decide),?_⟩
  refine ⟨t,_,_,_,rfl,rfl,SqT.of upd_same,ep,_,_,rfl,rfl,hp0,_,rfl,_,_,rfl,rfl,hm,?_⟩
  exact q _ _ (Int.emod_nonneg _ (by omega)) (Int.emod_lt_of_pos _ hm) (same_new ht _)
def xdd:Sp:=fun vs H Q _=>∃ (a:Addr) (ns:List Int),vs = [.ref a] ∧ LstAt H a ns ∧ ns.length ≤ 1000 ∧ ∀ H',Same H H' → Q (.bl true) H'
theorem xcY (T:Txt K mg A):FnOk P w K mg base CX0 3 A.xcd A.xcw ["_law_found"] xdd:=by
  have xeq:=xfb (P:=P) (w:=w) (base:=base) T
  refine T.xb7.ok xb1 (fun vs H Q E h=>?_) (fun cdv Ar outer s H vs Q E hr h=>?_)
  · obtain ⟨a,ns,rfl,_⟩:=h
    rfl
  obtain ⟨a,ns,rfl,ha,hlen,q⟩:=h
  refine ⟨_,(@pss_one _ _ _ (@ps_ret _ _ _ _ (@pe_and _ _ _ _ _ _ _ (@pe_callB _ _ _ _ _ _ _ _ _ call_isinst rfl T.b_isinstance B.isinstance (@pa_consN _ _ _ _ _ (@pv _ 0 _ _ (by rfl) (Or.inl rfl) (by decide) (by decide)) (@pa_consN _ _ _ _ _ (@pe_bltn _ _ (.ty "list") _ _ rfl T.b_list B.list rfl (by decide) (by decide)) (@pa_nil _) (by rfl)) (by rfl)) (by decide) (by decide) (by rfl) (by rfl)) (@pe_one _ _ _ _ _ (@pe_callB _ _ _ _ _ _ _ _ _ (call_all rfl) rfl T.b_all B.all (@pa_consN _ _ _ _ _ (@pe_comp0 _ _ (["_law_one"]) ([none]) _ _ _ _ _ _ _ _ xaz rfl (@pi_list _ _ _ _ (@pv _ 0 _ _ (by rfl) (Or.inl rfl) (by decide) (by decide))) (fun z=>(@pg_name _ _ (0) _ xaz.nd rfl (Or.inl rfl) (by exact .inr rfl))) (sets_name 0) (by decide) (fun z=>(@pe_call _ _ _ _ _ _ _ _ _ _ _ _ _ _ _ _ xeq (hr.mono (by decide)) rfl T.xe0 T.xeX T.xdr .nil pass0 (@pa_consN _ _ _ _ _ (@pv _ 0 _ _ (by rfl) (by exact .inl rfl) (by decide) (by decide)) (@pa_nil _) (by rfl)) (by decide) (by rfl) (by rfl))) (by intro _; rfl)) (@pa_nil _) (by rfl)) (by decide) (by decide) (by rfl) (by rfl)))))),?_⟩
  refine ⟨_,rfl,_,_,_,_,_,rfl,TyOf.lst ha,rfl,T.is_list_list,_,rfl,iteT ?_⟩
  refine ⟨_,rfl,a,rfl,⟨_,ha.ints⟩,comp_list (K:=K) (a:=a) (xs:=ns.map V.int) (fun i ys H'=>Same H H' ∧ ys = ((ns.take i).map fun _=>true).map V.bl) ⟨Same.refl _,rfl⟩ (by rw [List.length_map]; exact small100 hlen) ?_ ?_ ?_⟩
  · rintro i ys H' hi ⟨hs,rfl⟩
    rw [List.length_map] at hi
    exact ⟨LstAt.ints (hs _ _ ha),by rw [List.length_map,List.length_map,List.length_take]; omega⟩
  · rintro i x ys H' hx ⟨hs,rfl⟩
    obtain ⟨n,hn,rfl⟩:=ints_get hx
    refine ⟨_,rfl,n,rfl,hs,?_⟩
    rw [take_snoc hn,List.map_append,List.map_append]
    rfl
  · rintro ys H' ⟨hs,rfl⟩ l hl
    refine ⟨l,(ns.map fun _=>true),rfl,SqL.of (by rw [upd_same,List.length_map,List.take_length]),?_⟩
    have e:(ns.map fun _=>true).all id = true:=by simp
    rw [e]
    exact q _ (hs.trans (same_new hl _))
end
end W05
set_option Elab.async false
set_option linter.all false
set_option maxRecDepth 100000
namespace W05
open PySem L2
section
variable {P:Program} {w:World} {K:PySem.W.Frag} {mg:Str → Option Value} {base:Heap} {A:Adr}
theorem most_at {i:Int} (h0:0 ≤ i) (h1:i < 4):∃ m:Int,atI (List.map V.int [5,60,1000000,900]) i = some (.int m) ∧ 1 ≤ m ∧ m ≤ 1000000 ∧ (i ∈ ([1,3]:List Int) → m ≤ 900):=by
  have:i = 0 ∨ i = 1 ∨ i = 2 ∨ i = 3:=by omega
  rcases this with rfl | rfl | rfl | rfl
  · exact ⟨5,rfl,by decide,by decide,by decide⟩
  · exact ⟨60,rfl,by decide,by decide,by decide⟩
  · exact ⟨1000000,rfl,by decide,by decide,by decide⟩
  · exact ⟨900,rfl,by decide,by decide,by decide⟩
def sp_row (K:PySem.W.Frag):Sp:=fun vs H Q _=>∃ (a:Addr) (ns:List Int),vs = [.ref a] ∧ IntsAt K H a ns ∧ ns.length ≤ 63 ∧
  ∀ l xs H',NsOk xs → xs.length = ns.length → H l = none → LstAt H' l xs → Same H H' → Q (.ref l) H'
theorem viaS {t u:TS} {D:Ends} {σ:St} {H:Hp} (R:St → Hp → Prop) (h1:∀ D2:Ends,(∀ σ' H',R σ' H' → D2.nx σ' H') → t D2 σ H) (h2:∀ σ' H',R σ' H' → u D σ' H'):tSeq t u D σ H:=h1 _ h2
set_option maxHeartbeats 1000000 in
theorem xis (T:Txt K mg A):FnOk P w K mg base CX0 2 A.xhq A.xhP ["_law_script"] (sp_row K):=by
  have xb9:=xcX (P:=P) (w:=w) (base:=base) T
  have xfE:=xgP (P:=P) (w:=w) (base:=base) T
  refine T.xhj.ok xgY (fun vs H Q E h=>?_) (fun cdv Ar outer s H vs Q E hr h=>?_)
  · obtain ⟨a,ns,rfl,_⟩:=h
    rfl
  obtain ⟨a,ns,rfl,ha,hlen,q⟩:=h
  refine ⟨_,(@pss_cons _ _ _ _ _ (@ps_par _ _ (1) (2) _ _ _ _ _ _ _ _ _ _ _ rfl xgY.nd rfl rfl (by decide) rfl rfl (@pa_consN _ _ _ _ _ (@pe_call _ _ _ _ _ _ _ _ _ _ _ _ _ _ _ _ xfE (hr.mono (by decide)) rfl T.xgD T.xgu T.xex .nil pass0 (@pa_consN _ _ _ _ _ (@pe_call _ _ _ _ _ _ _ _ _ _ _ _ _ _ _ _ xb9 (hr.mono (by decide)) rfl T.xcN T.xcH T.xbA .nil pass0 (@pa_consN _ _ _ _ _ (@pv _ 0 _ _ (by rfl) (Or.inl rfl) (by decide) (by decide)) (@pa_consN _ _ _ _ _ (@pe_int _ _ _ _) (@pa_nil _) (by rfl)) (by rfl)) (by decide) (by rfl) (by rfl)) (@pa_consN _ _ _ _ _ (@pe_int _ _ _ _) (@pa_consN _ _ _ _ _ (@pe_int _ _ _ _) (@pa_nil _) (by rfl)) (by rfl)) (by rfl)) (by decide) (by rfl) (by rfl)) (@pa_consN _ _ _ _ _ (@pe_op _ _ _ _ _ _ _ _ op_add (@pe_int _ _ _ _) (@pe_call _ _ _ _ _ _ _ _ _ _ _ _ _ _ _ _ xfE (hr.mono (by decide)) rfl T.xgD T.xgu T.xex .nil pass0 (@pa_consN _ _ _ _ _ (@pe_call _ _ _ _ _ _ _ _ _ _ _ _ _ _ _ _ xb9 (hr.mono (by decide)) rfl T.xcN T.xcH T.xbA .nil pass0 (@pa_consN _ _ _ _ _ (@pv _ 0 _ _ (by rfl) (Or.inl rfl) (by decide) (by decide)) (@pa_consN _ _ _ _ _ (@pe_int _ _ _ _) (@pa_nil _) (by rfl)) (by rfl)) (by decide) (by rfl) (by rfl)) (@pa_consN _ _ _ _ _ (@pe_int _ _ _ _) (@pa_consN _ _ _ _ _ (@pe_int _ _ _ _) (@pa_nil _) (by rfl)) (by rfl)) (by rfl)) (by decide) (by rfl) (by rfl))) (@pa_nil _) (by rfl)) (by rfl)) rfl (by rfl)) (@pss_cons _ _ _ _ _ (@ps_set _ _ (3) _ _ _ _ xgY.nd rfl (Or.inl rfl) (@pe_ix _ _ _ _ _ _ _ ix_tup (@pe_tupI _ _ _ _ ([5,60,1000000,900]) rfl) (@pv _ 1 _ _ (by rfl) (Or.inl rfl) (by decide) (by decide)) (fun _ _=>rfl)) (by rfl) (Or.inl rfl)) (@pss_cons _ _ _ _ _ (@ps_set _ _ (4) _ _ _ _ xgY.nd rfl (Or.inl rfl) (@pe_lst _ _ _ _ (@pa_nil _)) (by rfl) (Or.inl rfl)) (@pss_cons _ _ _ _ _ (@ps_for _ _ _ _ _ _ _ _ PassesOwn.never rfl (@pi_range1 _ _ _ _ _ _ rfl T.b_range (@pa_consN _ _ _ _ _ (@pe_callB _ _ _ _ _ _ _ _ _ call_len_seq rfl T.b_len B.len (@pa_consN _ _ _ _ _ (@pv _ 0 _ _ (by rfl) (Or.inl rfl) (by decide) (by decide)) (@pa_nil _) (by rfl)) (by decide) (by decide) (by rfl) (by rfl)) (@pa_nil _) (by rfl)) (by rfl)) (@pg_name _ _ (5) _ xgY.nd rfl (Or.inl rfl) (Or.inl rfl)) (@pss_cons _ _ _ _ _ (@ps_set _ _ (6) _ _ _ _ xgY.nd rfl (Or.inl rfl) (@pe_call _ _ _ _ _ _ _ _ _ _ _ _ _ _ _ _ xfE (hr.mono (by decide)) rfl T.xgD T.xgu T.xex .nil pass0 (@pa_consN _ _ _ _ _ (@pe_ix _ _ _ _ _ _ _ ix_list (@pv _ 0 _ _ (by rfl) (Or.inl rfl) (by decide) (by decide)) (@pv _ 5 _ _ (by rfl) (Or.inl rfl) (by decide) (by decide)) (fun _ _=>rfl)) (@pa_consN _ _ _ _ _ (@pe_op _ _ _ _ _ _ _ _ op_add (@pe_op _ _ _ _ _ _ _ _ op_mod (@pv _ 5 _ _ (by rfl) (Or.inl rfl) (by decide) (by decide)) (@pe_int _ _ _ _)) (@pe_int _ _ _ _)) (@pa_consN _ _ _ _ _ (@pe_op _ _ _ _ _ _ _ _ op_add (@pv _ 3 _ _ (by rfl) (Or.inl rfl) (by decide) (by decide)) (@pe_int _ _ _ _)) (@pa_nil _) (by rfl)) (by rfl)) (by rfl)) (by decide) (by rfl) (by rfl)) (by rfl) (Or.inl rfl)) (@pss_cons _ _ _ _ _ (@ps_if _ _ _ _ _ _ _ _ (@pt_cmpR _ _ _ _ _ _ _ _ op_eqI (@pe_call _ _ _ _ _ _ _ _ _ _ _ _ _ _ _ _ xfE (hr.mono (by decide)) rfl T.xgD T.xgu T.xex .nil pass0 (@pa_consN _ _ _ _ _ (@pe_ix _ _ _ _ _ _ _ ix_list (@pv _ 0 _ _ (by rfl) (Or.inl rfl) (by decide) (by decide)) (@pv _ 5 _ _ (by rfl) (Or.inl rfl) (by decide) (by decide)) (fun _ _=>rfl)) (@pa_consN _ _ _ _ _ (@pe_op _ _ _ _ _ _ _ _ op_add (@pe_op _ _ _ _ _ _ _ _ op_mod (@pv _ 5 _ _ (by rfl) (Or.inl rfl) (by decide) (by decide)) (@pe_int _ _ _ _)) (@pe_int _ _ _ _)) (@pa_consN _ _ _ _ _ (@pe_int _ _ _ _) (@pa_nil _) (by rfl)) (by rfl)) (by rfl)) (by decide) (by rfl) (by rfl)) (@pe_int _ _ _ _) (nomark _)) (@pss_one _ _ _ (@ps_set _ _ (6) _ _ _ _ xgY.nd rfl (Or.inl rfl) (@pe_un _ _ _ _ _ _ un_neg (@pv _ 6 _ _ (by rfl) (Or.inl rfl) (by decide) (by decide))) (by rfl) (Or.inl rfl))) (@pss_nil _)) (@pss_one _ _ _ (@ps_expr _ _ _ _ (@pe_bm _ _ _ _ _ _ _ _ _ _ _ _ PySem.F.plainAttrs_list PySem.F.slot_list_append PySem.F.type_list_append mt_append (@pv _ 4 _ _ (by rfl) (Or.inl rfl) (by decide) (by decide)) (@pa_consN _ _ _ _ _ (@pe_ifExp _ _ _ _ _ _ _ _ (@pt_cmpR _ _ _ _ _ _ _ _ op_inT (@pv _ 1 _ _ (by rfl) (Or.inl rfl) (by decide) (by decide)) (@pe_tup _ _ _ _ _ (@pa_consN _ _ _ _ _ (@pe_int _ _ _ _) (@pa_consN _ _ _ _ _ (@pe_int _ _ _ _) (@pa_nil _) (by rfl)) (by rfl))) (by with_unfolding_all rfl)) (@pe_op _ _ _ _ _ _ _ _ op_mul (@pv _ 6 _ _ (by rfl) (Or.inl rfl) (by decide) (by decide)) (@pv _ 2 _ _ (by rfl) (Or.inl rfl) (by decide) (by decide))) (@pv _ 6 _ _ (by rfl) (Or.inl rfl) (by decide) (by decide))) (@pa_nil _) (by rfl)) (by rfl) (by rfl) (by rfl) (by rfl) (by rfl)) (by rfl))))) (by intro _; rfl)) (@pss_one _ _ _ (@ps_ret _ _ _ _ (@pv _ 4 _ _ (by rfl) (Or.inl rfl) (by decide) (by decide)))))))),?_⟩
  refine ⟨_,rfl,a,ns,0,rfl,ha,(by decide),fun c0=>⟨c0,6,4,rfl,(by decide),fun kind H1 k0 k1 s1=>?_⟩⟩
  refine ⟨_,rfl,a,ns,1,rfl,s1.ints ha,(by decide),fun c1=>⟨c1,7,40,rfl,(by decide),fun by' H2 b0 b1 s2=>?_⟩⟩
  refine ⟨_,_,rfl,rfl,_,_,rfl,?_⟩
  refine ⟨(by show 4 ≤ sizeLine; decide),fun u hu=>?_⟩
  obtain ⟨most,em,m1,m2,m3⟩:=most_at k0 k1
  refine ⟨_,rfl,u,_,_,_,rfl,rfl,SqT.of upd_same,em,?_⟩
  dsimp only [gName]
  refine ⟨(by show 0 ≤ sizeLine; decide),fun l hl=>?_⟩
  have s3:=((s1.trans s2).trans (same_new hu (.tup ([5,60,1000000,900].map V.int)))).trans (same_new hl (.lst []))
  have hl0:H l = none:=((s1.trans s2).trans (same_new hu _)).free hl
  dsimp only [gName]
  refine ⟨_,rfl,a,_,rfl,.inl (s3.ints ha),_,rfl,?_⟩
  rw [List.length_map]
  refine ⟨by omega,by omega,?_⟩
  rw [show ((ns.length:Int)).toNat = ns.length by omega]
  refine for_range (lo:=0) (n:=ns.length) (fun i σ H'=>∃ (xs:List Int) (f1 f2:Option V),σ = [some (.ref a),some (.int kind),some (.int (1 + by')),some (.int most),some (.ref l),f1,f2] ∧ Same H H' ∧ LstAt H' l xs ∧ xs.length = i ∧ NsOk xs) ⟨[],_,_,rfl,s3,upd_same,rfl,fun _ z=>nomatch z⟩ ?_ ?_
  · rintro i σ H' hi ⟨xs,f1,f2,rfl,sH,hL,hi2,hO⟩
    obtain ⟨c,hc,ec⟩:=atI_int (ns:=ns) (i:=0 + (i:Int)) (by omega) (by omega)
    dsimp only [gName]
    refine ⟨_,rfl,_,rfl,a,_,_,_,rfl,rfl,sH.ints ha,ec,_,rfl,_,_,rfl,rfl,(by show (0:Int) < 5; decide),_,_,rfl,rfl,_,rfl,_,_,rfl,rfl,c,_,_,rfl,by omega,fun v H3 v0 v1 s4=>?_⟩
    dsimp only [gName]
    have s5:=sH.trans s4
    refine viaS (fun σ' H4=>∃ n:Int,σ' = [some (.ref a),some (.int kind),some (.int (1 + by')),some (.int most),some (.ref l),some (.int (0 + (i:Int))),some (.int n)] ∧ -most ≤ n ∧ n ≤ most ∧ Same H' H4) (fun D2 k2=>?_) ?_
    · refine ⟨_,rfl,_,rfl,a,_,_,_,rfl,rfl,s5.ints ha,ec,_,rfl,_,_,rfl,rfl,(by show (0:Int) < 7; decide),_,_,rfl,rfl,c,_,2,rfl,by decide,fun v2 H4 _ _ s6=>⟨_,_,rfl,rfl,_,rfl,?_⟩⟩
      by_cases h0:v2 = 0
      · rw [decT h0]
        exact iteT ⟨_,rfl,_,rfl,k2 _ _ ⟨-v,rfl,by omega,by omega,s4.trans s6⟩⟩
      · rw [decF h0]
        exact iteF (k2 _ _ ⟨v,rfl,by omega,by omega,s4.trans s6⟩)
    · rintro σ' H4 ⟨n,rfl,n0,n1,s6⟩
      have hL4:=s6 _ _ hL
      have sH4:=sH.trans s6
      refine ⟨_,rfl,.inl ⟨rfl,_,SqL.of hL4⟩,?_⟩
      have fin:∀ (x:Int) H5,-1000000 ≤ x → x ≤ 1000000 → Same H' H5 → rAppend (.ref l) [.int x] H5 (fun _ H6=>∃ (xs:List Int) (f1 f2:Option V),[some (V.ref a),some (.int kind),some (.int (1 + by')),some (.int most),some (.ref l),some (.int (0 + (i:Int))),some (.int n)] = [some (V.ref a),some (.int kind),some (.int (1 + by')),some (.int most),some (.ref l),f1,f2] ∧ Same H H6 ∧ LstAt H6 l xs ∧ xs.length = i + 1 ∧ NsOk xs):=fun x H5 x0 x1 s7=>by
        have hL5:=s7 _ _ hL
        refine ⟨l,_,_,rfl,rfl,hL5,by rw [List.length_map]; exact small1000 (by omega),xs ++ [x],_,_,rfl,fun b o e=>?_,?_,by rw [List.length_append,hi2]; rfl,fun t ht=>?_⟩
        · rw [upd_ne (ne_of_none e hl0)]
          exact (sH.trans s7) b o e
        · unfold LstAt
          rw [upd_same,List.map_append]
          rfl
        · rcases List.mem_append.mp ht with z | z
          · exact hO t z
          · rw [List.mem_singleton.mp z]; exact ⟨x0,x1⟩
      refine ⟨_,rfl,(by show 2 ≤ sizeLine; decide),fun t ht=>⟨kind,t,[1,3],rfl,rfl,SqT.of upd_same,_,rfl,?_⟩⟩
      have s8:=s6.trans (same_new ht (.tup [.int 1,.int 3]))
      by_cases hk:kind ∈ ([1,3]:List Int)
      · rw [decT hk]
        have hm:=m3 hk
        have hmul : -(900 * 40) ≤ n * (1 + by') ∧ n * (1 + by') ≤ 900 * 40:=Wr.mul_small (M:=900) (N:=40) ⟨by omega,by omega⟩ ⟨by omega,by omega⟩ (by omega) (by omega)
        exact iteT ⟨_,rfl,_,rfl,_,_,rfl,rfl,.inr ⟨by omega,by omega⟩,fin _ _ (by omega) (by omega) s8⟩
      · rw [decF hk]
        exact iteF ⟨_,rfl,fin _ _ (by omega) (by omega) s8⟩
  · rintro σ H' ⟨xs,f1,f2,rfl,sH,hL,hi2,hO⟩
    exact ⟨_,rfl,q l xs H' hO hi2 hl0 hL sH⟩
end
end W05
set_option Elab.async false
set_option linter.all false
set_option maxRecDepth 100000
namespace W05
open PySem L2
section
variable {P:Program} {w:World} {K:PySem.W.Frag} {mg:Str → Option Value} {base:Heap} {A:Adr}
theorem pre_cut {xs:List Int} {i j:Nat} (hij:i ≤ j) (h:pre xs i = pre xs (j + 1)):((xs.drop i).take (j + 1 - i)).sum % (xs.length:Int) = 0:=by
  have e:xs.take (j + 1) = xs.take i ++ (xs.drop i).take (j + 1 - i):=by
    rw [← List.take_add,show i + (j + 1 - i) = j + 1 by omega]
  unfold pre at h
  rw [e,List.sum_append] at h
  have h2:(((xs.take i).sum + ((xs.drop i).take (j + 1 - i)).sum) - (xs.take i).sum) % (xs.length:Int) = 0:=by
    rw [Int.sub_emod,← h,Int.sub_self,Int.zero_emod]
  rw [Int.add_comm,Int.add_sub_cancel] at h2
  exact h2
def sp_stretched:Sp:=fun vs H Q _=>∃ (a b:Addr) (xs:List Int) (i j:Nat),vs = [.ref a,.ref b] ∧ LstAt H a xs ∧ H b = some (.tup [.int i,.int j]) ∧ i ≤ j ∧ j < xs.length ∧ pre xs i = pre xs (j + 1) ∧ ∀ H',Same H H' → Q (.bl true) H'
theorem ok_stretched (T:Txt K mg A):FnOk P w K mg base CX0 4 A.xbi A.xbm ["_law_numbers_here", "_law_found"] sp_stretched:=by
  have xca:=xcY (P:=P) (w:=w) (base:=base) T
  refine T.xbe.ok xa8 (fun vs H Q E h=>?_) (fun cdv Ar outer s H vs Q E hr h=>?_)
  · obtain ⟨a,b,xs,i,j,rfl,_⟩:=h
    rfl
  obtain ⟨a,b,xs,i,j,rfl,hA,hB,hij,hj,hp,q⟩:=h
  refine ⟨_,(@pss_cons _ _ _ _ _ (@ps_if _ _ _ _ _ _ _ _ (@PW.pt _ _ _ (@pw_or _ _ _ _ _ _ _ (@pt_not _ _ _ _ (@pt_val _ _ _ (@pe_callB _ _ _ _ _ _ _ _ _ call_isinst rfl T.b_isinstance B.isinstance (@pa_consN _ _ _ _ _ (@pv _ 1 _ _ (by rfl) (Or.inl rfl) (by decide) (by decide)) (@pa_consN _ _ _ _ _ (@pe_bltn _ _ (.ty "tuple") _ _ rfl T.b_tuple B.tuple rfl (by decide) (by decide)) (@pa_nil _) (by rfl)) (by rfl)) (by decide) (by decide) (by rfl) (by rfl)) (by intro _; rfl))) (@pw_or _ _ _ _ _ _ _ (@pt_cmpR _ _ _ _ _ _ _ _ op_neI (@pe_callB _ _ _ _ _ _ _ _ _ call_len_seq rfl T.b_len B.len (@pa_consN _ _ _ _ _ (@pv _ 1 _ _ (by rfl) (Or.inl rfl) (by decide) (by decide)) (@pa_nil _) (by rfl)) (by decide) (by decide) (by rfl) (by rfl)) (@pe_int _ _ _ _) (nomark _)) (@pw_or1 _ _ _ _ (@pt_not _ _ _ _ (@pt_val _ _ _ (@pe_call _ _ _ _ _ _ _ _ _ _ _ _ _ _ _ _ xca (hr.mono (by decide)) rfl T.xcO T.xcI T.xbB .nil pass0 (@pa_consN _ _ _ _ _ (@pe_callTy _ _ _ _ _ _ _ _ _ call_list_of rfl T.b_list B.list (@pa_consN _ _ _ _ _ (@pv _ 1 _ _ (by rfl) (Or.inl rfl) (by decide) (by decide)) (@pa_nil _) (by rfl)) (by decide) (by decide) (by rfl) (by rfl)) (@pa_nil _) (by rfl)) (by decide) (by rfl) (by rfl)) (by intro _; rfl))))))) (@pss_one _ _ _ (@ps_ret _ _ _ _ (@pe_bl _ _ _ _))) (@pss_nil _)) (@pss_cons _ _ _ _ _ (@ps_asg _ _ _ _ _ _ (@pv _ 1 _ _ (by rfl) (Or.inl rfl) (by decide) (by decide)) (@pg_tup _ _ _ _ _ (2) rfl (@pgs_cons _ _ _ _ _ (@pg_name _ _ (2) _ xa8.nd rfl (Or.inl rfl) (Or.inl rfl)) (@pgs_cons _ _ _ _ _ (@pg_name _ _ (3) _ xa8.nd rfl (Or.inl rfl) (Or.inl rfl)) (@pgs_nil _) (by rfl)) (by rfl)) (by rfl) (by rfl)) (by rfl) (by rfl) (by rfl)) (@pss_one _ _ _ (@ps_ret _ _ _ _ (@pe_and _ _ _ _ _ _ _ (@pe_chain3 _ _ _ _ _ _ _ _ _ _ _ _ _ _ _ _ op_le op_le op_lt (@pe_int _ _ _ _) (@pv _ 2 _ _ (by rfl) (Or.inl rfl) (by decide) (by decide)) (@pv _ 3 _ _ (by rfl) (Or.inl rfl) (by decide) (by decide)) (@pe_callB _ _ _ _ _ _ _ _ _ call_len_seq rfl T.b_len B.len (@pa_consN _ _ _ _ _ (@pv _ 0 _ _ (by rfl) (Or.inl rfl) (by decide) (by decide)) (@pa_nil _) (by rfl)) (by decide) (by decide) (by rfl) (by rfl)) (by with_unfolding_all rfl)) (@pe_one _ _ _ _ _ (@pe_cmpR _ _ _ _ _ _ _ _ op_eqI (@pe_op _ _ _ _ _ _ _ _ op_mod (@pe_callB _ _ _ _ _ _ _ _ _ (call_sum rfl) rfl T.b_sum B.sum (@pa_consN _ _ _ _ _ (@pe_slice _ _ _ _ _ _ _ _ _ _ sl_list (@pv _ 0 _ _ (by rfl) (Or.inl rfl) (by decide) (by decide)) (@po_some _ _ _ (@pv _ 2 _ _ (by rfl) (Or.inl rfl) (by decide) (by decide))) (@po_some _ _ _ (@pe_op _ _ _ _ _ _ _ _ op_add (@pv _ 3 _ _ (by rfl) (Or.inl rfl) (by decide) (by decide)) (@pe_int _ _ _ _)))) (@pa_nil _) (by rfl)) (by decide) (by decide) (by rfl) (by rfl)) (@pe_callB _ _ _ _ _ _ _ _ _ call_len_seq rfl T.b_len B.len (@pa_consN _ _ _ _ _ (@pv _ 0 _ _ (by rfl) (Or.inl rfl) (by decide) (by decide)) (@pa_nil _) (by rfl)) (by decide) (by decide) (by rfl) (by rfl))) (@pe_int _ _ _ _) (nomark _)))))))),?_⟩
  refine ⟨_,rfl,_,_,_,_,_,rfl,TyOf.tup hB,rfl,T.is_tuple_tuple,_,rfl,iteF ?_⟩
  refine ⟨_,rfl,b,_,rfl,.inr (SqT.of hB),_,_,rfl,rfl,_,rfl,iteF ?_⟩
  refine ⟨_,rfl,b,_,rfl,.inr (SqT.of hB),fun l hl=>⟨l,[(i:Int),(j:Int)],rfl,upd_same,(by show 2 ≤ 1000; decide),fun H1 s1=>⟨_,rfl,iteF ?_⟩⟩⟩
  have s2:=(same_new hl (.lst [.int i,.int j])).trans s1
  have hA2:=Same.lst s2 hA
  refine ⟨_,rfl,b,_,rfl,SqT.of (s2 _ _ hB),rfl,_,_,rfl,_,_,rfl,rfl,?_⟩
  refine ⟨_,rfl,_,_,rfl,rfl,_,rfl,?_⟩
  rw [decT (show (0:Int) ≤ (i:Int) by omega)]
  refine iteT ⟨_,rfl,_,_,rfl,rfl,_,rfl,?_⟩
  rw [decT (show (i:Int) ≤ (j:Int) by omega)]
  refine iteT ⟨_,rfl,a,_,rfl,.inl hA2.ints,_,_,rfl,rfl,_,rfl,?_⟩
  rw [List.length_map,decT (show (j:Int) < ((xs.length:Nat):Int) by omega)]
  have ec:cutV (xs.map V.int) (some (i:Int)) (some ((j:Int) + 1)) = ((xs.drop i).take (j + 1 - i)).map V.int:=by
    rw [show (j:Int) + 1 = (i:Int) + ((j + 1 - i:Nat):Int) by omega,cut_mid (by rw [List.length_map]; omega),List.map_take,List.map_drop]
  refine iteT ⟨_,rfl,_,rfl,_,rfl,_,rfl,_,_,rfl,rfl,_,rfl,a,_,rfl,hA2.ints,fun m hm=>⟨m,(xs.drop i).take (j + 1 - i),rfl,SqL.of (by rw [upd_same,ec]),_,rfl,a,_,rfl,.inl (LstAt.ints (Same.lst (same_new hm _) hA2)),_,_,rfl,rfl,by rw [List.length_map]; omega,_,_,rfl,rfl,?_⟩⟩
  rw [List.length_map]
  dsimp only
  rw [pre_cut hij hp]
  exact q _ (s2.trans (same_new hm _))
def sp_lpicked:Sp:=fun vs H Q _=>∃ (a b:Addr) (xs:List Int) (ks:List Nat),vs = [.ref a,.ref b] ∧ LstAt H a xs ∧ NatsAt H b ks ∧ Chs xs ks ∧ xs.length ≤ 1000 ∧ ∀ H',Same H H' → Q (.bl true) H'
theorem ok_lpicked (T:Txt K mg A):FnOk P w K mg base CX0 4 A.xdm A.xdz ["_law_numbers_here", "_law_found"] sp_lpicked:=by
  have xca:=xcY (P:=P) (w:=w) (base:=base) T
  refine T.xdg.ok xc6 (fun vs H Q E h=>?_) (fun cdv Ar outer s H vs Q E hr h=>?_)
  · obtain ⟨a,b,xs,ks,rfl,_⟩:=h
    rfl
  obtain ⟨a,b,xs,ks,rfl,hA,hB,hC,hl,q⟩:=h
  have hh:=hC.half
  refine ⟨_,(@pss_cons _ _ _ _ _ (@ps_if _ _ _ _ _ _ _ _ (@PW.pt _ _ _ (@pw_or _ _ _ _ _ _ _ (@pt_not _ _ _ _ (@pt_val _ _ _ (@pe_call _ _ _ _ _ _ _ _ _ _ _ _ _ _ _ _ xca (hr.mono (by decide)) rfl T.xcO T.xcI T.xbB .nil pass0 (@pa_consN _ _ _ _ _ (@pv _ 1 _ _ (by rfl) (Or.inl rfl) (by decide) (by decide)) (@pa_nil _) (by rfl)) (by decide) (by rfl) (by rfl)) (by intro _; rfl))) (@pw_or1 _ _ _ _ (@pt_cmpR _ _ _ _ _ _ _ _ op_neI (@pe_op _ _ _ _ _ _ _ _ op_sub (@pe_op _ _ _ _ _ _ _ _ op_mul (@pe_int _ _ _ _) (@pe_callB _ _ _ _ _ _ _ _ _ call_len_seq rfl T.b_len B.len (@pa_consN _ _ _ _ _ (@pv _ 1 _ _ (by rfl) (Or.inl rfl) (by decide) (by decide)) (@pa_nil _) (by rfl)) (by decide) (by decide) (by rfl) (by rfl))) (@pe_int _ _ _ _)) (@pe_callB _ _ _ _ _ _ _ _ _ call_len_seq rfl T.b_len B.len (@pa_consN _ _ _ _ _ (@pv _ 0 _ _ (by rfl) (Or.inr (Or.inl rfl)) (by decide) (by decide)) (@pa_nil _) (by rfl)) (by decide) (by decide) (by rfl) (by rfl)) (nomark _))))) (@pss_one _ _ _ (@ps_ret _ _ _ _ (@pe_bl _ _ _ _))) (@pss_nil _)) (@pss_cons _ _ _ _ _ (@ps_set _ _ (2) _ _ _ _ xc6.nd rfl (Or.inl rfl) (@pe_un _ _ _ _ _ _ un_neg (@pe_int _ _ _ _)) (by rfl) (Or.inl rfl)) (@pss_cons _ _ _ _ _ (@ps_for _ _ _ _ _ _ _ _ PassesOwn.never rfl (@pi_list _ _ _ _ (@pv _ 1 _ _ (by rfl) (Or.inl rfl) (by decide) (by decide))) (@pg_name _ _ (3) _ xc6.nd rfl (Or.inl rfl) (Or.inl rfl)) (@pss_cons _ _ _ _ _ (@ps_if _ _ _ _ _ _ _ _ (@pt_not _ _ _ _ (@pt_chain _ _ _ _ _ _ _ _ _ _ _ _ op_lt op_lt (@pv _ 2 _ _ (by rfl) (Or.inl rfl) (by decide) (by decide)) (@pv _ 3 _ _ (by rfl) (Or.inl rfl) (by decide) (by decide)) (@pe_callB _ _ _ _ _ _ _ _ _ call_len_seq rfl T.b_len B.len (@pa_consN _ _ _ _ _ (@pv _ 0 _ _ (by rfl) (Or.inr (Or.inl rfl)) (by decide) (by decide)) (@pa_nil _) (by rfl)) (by decide) (by decide) (by rfl) (by rfl)) (by with_unfolding_all rfl))) (@pss_one _ _ _ (@ps_ret _ _ _ _ (@pe_bl _ _ _ _))) (@pss_nil _)) (@pss_one _ _ _ (@ps_set _ _ (2) _ _ _ _ xc6.nd rfl (Or.inl rfl) (@pv _ 3 _ _ (by rfl) (Or.inl rfl) (by decide) (by decide)) (by rfl) (Or.inl rfl)))) (by intro _; rfl)) (@pss_one _ _ _ (@ps_ret _ _ _ _ (@pe_cmpR _ _ _ _ _ _ _ _ op_eqI (@pe_op _ _ _ _ _ _ _ _ op_mod (@pe_callB _ _ _ _ _ _ _ _ _ (call_sum rfl) rfl T.b_sum B.sum (@pa_consN _ _ _ _ _ (@pe_comp0 _ _ (["_law_numbers_here", "_law_place"]) ([some 0,none]) _ _ _ _ _ _ _ _ xa7 rfl (@pi_list _ _ _ _ (@pv _ 1 _ _ (by rfl) (Or.inl rfl) (by decide) (by decide))) (fun z=>(@pg_name _ _ (1) _ xa7.nd rfl (Or.inl rfl) (by exact .inr rfl))) (sets_name 1) (by decide) (fun z=>(@pe_ix _ _ _ _ _ _ _ (ix_listK (K:=K) (by rfl)) (@pv _ 0 _ _ (by rfl) (by exact .inr (.inl rfl)) (by decide) (by decide)) (@pv _ 1 _ _ (by rfl) (by exact .inl rfl) (by decide) (by decide)) (fun _ _=>rfl))) (by intro _; rfl)) (@pa_nil _) (by rfl)) (by decide) (by decide) (by rfl) (by rfl)) (@pe_callB _ _ _ _ _ _ _ _ _ call_len_seq rfl T.b_len B.len (@pa_consN _ _ _ _ _ (@pv _ 1 _ _ (by rfl) (Or.inl rfl) (by decide) (by decide)) (@pa_nil _) (by rfl)) (by decide) (by decide) (by rfl) (by rfl))) (@pe_int _ _ _ _) (nomark _))))))),?_⟩
  refine ⟨_,rfl,b,ks.map (fun (k:Nat)=>(k:Int)),rfl,by unfold LstAt; rw [List.map_map]; exact hB,by rw [List.length_map]; omega,fun H1 s1=>⟨_,rfl,iteF ?_⟩⟩
  have hA1:=Same.lst s1 hA
  have hB1:NatsAt H1 b ks:=s1 _ _ hB
  refine ⟨_,rfl,b,_,rfl,.inl hB1.seq,_,_,rfl,rfl,.inl ⟨by omega,by omega⟩,_,_,rfl,rfl,_,rfl,a,_,rfl,.inl hA1.ints,_,_,rfl,rfl,_,rfl,?_⟩
  rw [List.length_map,List.length_map,decT (show (2:Int) * ((ks.length:Nat):Int) - 1 = ((xs.length:Nat):Int) by omega)]
  refine iteF ⟨_,rfl,?_⟩
  dsimp only [gName]
  refine ⟨_,rfl,b,rfl,⟨_,hB1.seq⟩,for_list (K:=K) (a:=b) (xs:=ks.map fun (k:Nat)=>V.int k) (fun i σ H'=>∃ (v:Option V) (last:Int),σ = [some (.ref a),some (.ref b),some (.int last),v] ∧ H' = H1 ∧ ∀ k,ks[i]? = some k → last < (k:Int)) ⟨none,-1,rfl,rfl,fun k _=>by omega⟩ ?_ ?_ ?_⟩
  · rintro i σ H' hi ⟨v,last,rfl,rfl,hla⟩
    exact hB1.seq
  · rintro i x σ H' hx ⟨v,last,rfl,rfl,hla⟩
    rw [List.getElem?_map] at hx
    obtain ⟨k,hk,rfl⟩:=Option.map_eq_some_iff.mp hx
    have hkl:=hC.lt k (List.mem_of_getElem? hk)
    dsimp only [gName]
    refine ⟨_,rfl,_,rfl,_,_,rfl,rfl,_,rfl,?_⟩
    rw [decT (hla k hk)]
    refine iteT ⟨_,rfl,a,_,rfl,.inl hA1.ints,_,_,rfl,rfl,_,rfl,?_⟩
    rw [List.length_map,decT (show (k:Int) < ((xs.length:Nat):Int) by omega)]
    refine iteF ⟨_,rfl,_,_,rfl,rfl,fun k2 hk2=>?_⟩
    have:=(List.pairwise_iff_getElem.mp hC.up) i (i + 1) (List.getElem?_eq_some_iff.mp hk).1 (List.getElem?_eq_some_iff.mp hk2).1 (by omega)
    rw [(List.getElem?_eq_some_iff.mp hk).2,(List.getElem?_eq_some_iff.mp hk2).2] at this
    omega
  · rintro σ H' ⟨v,last,rfl,rfl,hla⟩
    refine ⟨_,rfl,b,rfl,⟨_,hB1.seq⟩,comp_list (K:=K) (a:=b) (xs:=ks.map fun (k:Nat)=>V.int k) (fun i ys H2=>H2 = H' ∧ ys = ((ks.take i).map fun k=>xs.getD k 0).map V.int) ⟨rfl,rfl⟩ (by rw [List.length_map]; exact Nat.le_of_lt (small1000 (by omega))) ?_ ?_ ?_⟩
    · rintro i ys H2 hi ⟨rfl,rfl⟩
      rw [List.length_map] at hi
      exact ⟨hB1.seq,by rw [List.length_map,List.length_map,List.length_take]; omega⟩
    · rintro i x ys H2 hx ⟨rfl,rfl⟩
      rw [List.getElem?_map] at hx
      obtain ⟨k,hk,rfl⟩:=Option.map_eq_some_iff.mp hx
      have hkl:=hC.lt k (List.mem_of_getElem? hk)
      have hat:atI (xs.map V.int) (k:Int) = some (.int (xs.getD k 0)):=atI_nat (by rw [List.getElem?_map,List.getD_eq_getElem?_getD,List.getElem?_eq_getElem hkl]; rfl)
      refine ⟨_,rfl,_,rfl,a,_,_,_,rfl,rfl,hA1.ints,hat,rfl,?_⟩
      rw [take_snoc hk,List.map_append,List.map_append]
      rfl
    rintro ys H2 ⟨rfl,rfl⟩ l hl0
    rw [List.length_map,List.take_length]
    have sl:=same_new hl0 (.lst ((ks.map fun k=>xs.getD k 0).map V.int))
    refine ⟨l,_,rfl,SqL.of upd_same,_,rfl,b,_,rfl,.inl (SqL.of (sl _ _ hB1)),_,_,rfl,rfl,by rw [List.length_map]; omega,_,_,rfl,rfl,?_⟩
    rw [List.length_map]
    dsimp only
    rw [hC.sum]
    exact q _ (s1.trans sl)
end
end W05
set_option Elab.async false
set_option linter.all false
set_option maxRecDepth 100000
namespace W05
open PySem L2
section
variable {P:Program} {w:World} {K:PySem.W.Frag} {mg:Str → Option Value} {base:Heap} {A:Adr}
theorem try_via {K:PySem.W.Frag} {R:Addr} {k:Nat} {tb:XK → TS} {ts:Value → TS} {D:Ends} {σ:St} {H:Hp} {C:Addr} (hC:PySem.W.exmOne K (.ref C) (.ref R) = some true)
    (h1:∀ E:XK,(∀ ea H',Same H H' → H' ea = none → E (.ref C) (some ea) H') → tb E D σ H)
    (h2:∀ ea H',Same H H' → H' ea = none → ∀ σ':St,σ'.length = σ.length → ts (.ref ea) { nx:=fun _ _=>False,rt:=D.rt } (σ'.set k (some (.ref ea))) (upd H' ea (exo C ea))):tTry K R k tb ts D σ H :=
  h1 _ fun ea H' s he=>⟨C,ea,rfl,rfl,hC,h2 ea H' s he⟩
theorem seqS {t u:TS} {D:Ends} {σ:St} {H:Hp} (h:t { D with nx:=u D } σ H):tSeq t u D σ H:=h
def sp_bad (A:Adr):Sp:=fun vs H Q _=>∃ (a:Addr) (ask:Int) (xs:List Int),vs = [.int ask,.ref a] ∧ LstAt H a xs ∧ NsOk xs ∧ xs.length ≤ 63 ∧ Tb A H ∧ ((ask = 1 ∧ xs.length % 2 = 0) ∨ (ask = 0 ∧ xs = [])) ∧ ∀ H',Same H H' → Q (.bl true) H'
set_option maxHeartbeats 2000000 in
theorem ok_bad (T:Txt K mg A):FnOk P w K mg base CX0 9 A.xbh A.xbl ["_law_ask", "_law_numbers_here"] (sp_bad A):=by
  have xj3:=xjN (P:=P) (w:=w) (base:=base) T
  have xiY:=xiu (P:=P) (w:=w) (base:=base) T
  refine T.xbd.ok xa6 (fun vs H Q E h=>?_) (fun cdv Ar outer s H vs Q E hr h=>?_)
  · obtain ⟨a,ask,xs,rfl,_⟩:=h
    rfl
  obtain ⟨a,ask,xs,rfl,hA,hO,hL,hT,hc,q⟩:=h
  refine ⟨_,(@pss_cons _ _ _ _ _ (@ps_try _ _ _ _ (2) _ _ _ _ _ _ _ _ rfl rfl rfl xa6.nd rfl rfl rfl T.xgC (fun pins xe E hp=>(@pss_one _ _ _ (@ps_expr _ _ _ _ (@pe_ifExp _ _ _ _ _ _ _ _ (@pt_cmpR _ _ _ _ _ _ _ _ op_eqI (@pv _ 0 _ _ (by rfl) (Or.inl rfl) (by decide) (by decide)) (@pe_int _ _ _ _) (nomark _)) (@pe_call _ _ _ _ _ _ _ _ _ _ _ _ _ _ _ _ xj3 (hr.mono (by decide)) rfl T.xkh T.xkd T.xi5 .nil hp (@pa_consN _ _ _ _ _ (@pv _ 1 _ _ (by rfl) (Or.inl rfl) (by decide) (by decide)) (@pa_nil _) (by rfl)) (by decide) (by rfl) (by rfl)) (@pe_call _ _ _ _ _ _ _ _ _ _ _ _ _ _ _ _ xiY (hr.mono (by decide)) rfl T.xjI T.xjy T.xhA .nil hp (@pa_consN _ _ _ _ _ (@pv _ 1 _ _ (by rfl) (Or.inl rfl) (by decide) (by decide)) (@pa_nil _) (by rfl)) (by decide) (by rfl) (by rfl))) (by rfl)))) (fun e=>(@pss_cons _ _ _ _ _ (@ps_set _ _ (3) _ _ _ _ xa6.nd rfl (Or.inl rfl) (@pe_lst _ _ _ _ (@pa_consN _ _ _ _ _ (@pe_callB _ _ _ _ _ _ _ _ _ call_isexc rfl T.b_isinstance B.isinstance (@pa_consN _ _ _ _ _ (@pv _ 2 _ _ (by rfl) (Or.inl rfl) (by decide) (by decide)) (@pa_consN _ _ _ _ _ (@pe_glob _ _ (.ref _) _ _ rfl T.xeZ rfl (by decide)) (@pa_nil _) (by rfl)) (by rfl)) (by decide) (by decide) (by rfl) (by rfl)) (@pa_consN _ _ _ _ _ (@pe_callB _ _ _ _ _ _ _ _ _ call_isexc rfl T.b_isinstance B.isinstance (@pa_consN _ _ _ _ _ (@pv _ 2 _ _ (by rfl) (Or.inl rfl) (by decide) (by decide)) (@pa_consN _ _ _ _ _ (@pe_glob _ _ (.ref _) _ _ rfl T.xjD rfl (by decide)) (@pa_nil _) (by rfl)) (by rfl)) (by decide) (by decide) (by rfl) (by rfl)) (@pa_consN _ _ _ _ _ (@pe_callB _ _ _ _ _ _ _ _ _ call_isexc rfl T.b_isinstance B.isinstance (@pa_consN _ _ _ _ _ (@pv _ 2 _ _ (by rfl) (Or.inl rfl) (by decide) (by decide)) (@pa_consN _ _ _ _ _ (@pe_glob _ _ (.ref _) _ _ rfl T.xid rfl (by decide)) (@pa_nil _) (by rfl)) (by rfl)) (by decide) (by decide) (by rfl) (by rfl)) (@pa_nil _) (by rfl)) (by rfl)) (by rfl))) (by rfl) (Or.inl rfl)) (@pss_cons _ _ _ _ _ (@ps_set _ _ (3) _ _ _ _ xa6.nd rfl (Or.inl rfl) (@pe_op _ _ _ _ _ _ _ _ op_cat (@pv _ 3 _ _ (by rfl) (Or.inl rfl) (by decide) (by decide)) (@pe_lst _ _ _ _ (@pa_consN _ _ _ _ _ (@pe_callB _ _ _ _ _ _ _ _ _ call_isexc rfl T.b_isinstance B.isinstance (@pa_consN _ _ _ _ _ (@pv _ 2 _ _ (by rfl) (Or.inl rfl) (by decide) (by decide)) (@pa_consN _ _ _ _ _ (@pe_glob _ _ (.ref _) _ _ rfl T.xie rfl (by decide)) (@pa_nil _) (by rfl)) (by rfl)) (by decide) (by decide) (by rfl) (by rfl)) (@pa_consN _ _ _ _ _ (@pe_callB _ _ _ _ _ _ _ _ _ call_isexc rfl T.b_isinstance B.isinstance (@pa_consN _ _ _ _ _ (@pv _ 2 _ _ (by rfl) (Or.inl rfl) (by decide) (by decide)) (@pa_consN _ _ _ _ _ (@pe_glob _ _ (.ref _) _ _ rfl T.xjE rfl (by decide)) (@pa_nil _) (by rfl)) (by rfl)) (by decide) (by decide) (by rfl) (by rfl)) (@pa_consN _ _ _ _ _ (@pe_not _ _ _ _ (@pe_callB _ _ _ _ _ _ _ _ _ call_isexc rfl T.b_isinstance B.isinstance (@pa_consN _ _ _ _ _ (@pv _ 2 _ _ (by rfl) (Or.inl rfl) (by decide) (by decide)) (@pa_consN _ _ _ _ _ (@pe_bltn _ _ (.ty "ValueError") _ _ rfl T.b_ValueError B.ValueError rfl (by decide) (by decide)) (@pa_nil _) (by rfl)) (by rfl)) (by decide) (by decide) (by rfl) (by rfl))) (@pa_nil _) (by rfl)) (by rfl)) (by rfl)))) (by rfl) (Or.inl rfl)) (@pss_one _ _ _ (@ps_ret _ _ _ _ (@pe_and _ _ _ _ _ _ _ (@pe_callB _ _ _ _ _ _ _ _ _ call_isexc rfl T.b_isinstance B.isinstance (@pa_consN _ _ _ _ _ (@pv _ 2 _ _ (by rfl) (Or.inl rfl) (by decide) (by decide)) (@pa_consN _ _ _ _ _ (@pe_glob _ _ (.ref _) _ _ rfl T.xic rfl (by decide)) (@pa_nil _) (by rfl)) (by rfl)) (by decide) (by decide) (by rfl) (by rfl)) (@pe_one _ _ _ _ _ (@pe_not _ _ _ _ (@pe_callB _ _ _ _ _ _ _ _ _ call_anyH rfl T.b_any B.any (@pa_consN _ _ _ _ _ (@pv _ 3 _ _ (by rfl) (Or.inl rfl) (by decide) (by decide)) (@pa_nil _) (by rfl)) (by decide) (by decide) (by rfl) (by rfl)))))))))) (by decide)) (@pss_one _ _ _ (@ps_ret _ _ _ _ (@pe_bl _ _ _ _)))),?_⟩
  refine seqS (try_via (C:=A.xhB) T.xai (fun E2 e2=>?_) ?_)
  · refine ⟨_,rfl,_,_,rfl,rfl,_,rfl,?_⟩
    rcases hc with ⟨rfl,he⟩ | ⟨rfl,rfl⟩
    · exact iteT ⟨_,rfl,a,xs,rfl,hA,hO,hL,hT,fun _=>e2,fun b ks H' ho=>by omega⟩
    · exact iteF ⟨_,rfl,a,[],rfl,hA,hO,by decide,fun _=>e2,fun i j b H' _ z=>by cases z⟩
  · intro ea H1 s1 hea σ' hl
    have hl:σ'.length = 4:=hl
    have so:=same_new hea (exo A.xhB ea)
    have ho:upd H1 ea (exo A.xhB ea) ea = some (exo A.xhB ea):=upd_same
    generalize upd H1 ea (exo A.xhB ea) = H2 at *
    match σ',hl with
    | [x0,x1,x2,x3],_ =>
      refine ⟨_,rfl,ea,_,_,_,_,rfl,ho,T.xge,rfl,T.xac,_,rfl,ea,_,_,_,_,rfl,ho,T.xge,rfl,T.xam,_,rfl,ea,_,_,_,_,rfl,ho,T.xge,rfl,T.xak,(by show 3 ≤ sizeLine; decide),fun l1 h1=>?_⟩
      have z1:=same_new h1 (.lst (([false,false,false]:List Bool).map V.bl))
      have ho1:=z1 _ _ ho
      refine ⟨_,rfl,_,rfl,ea,_,_,_,_,rfl,ho1,T.xge,rfl,T.xal,_,rfl,ea,_,_,_,_,rfl,ho1,T.xge,rfl,T.xan,_,rfl,ea,_,_,_,_,rfl,ho1,T.xge,rfl,T.xgl,_,rfl,(by show 3 ≤ sizeLine; decide),fun l2 h2=>?_⟩
      have z2:=same_new h2 (.lst (([false,false,false]:List Bool).map V.bl))
      refine ⟨l1,l2,_,_,rfl,rfl,z2 _ _ upd_same,upd_same,(by show 6 ≤ sizeLine; decide),fun l3 h3=>?_⟩
      have z3:=same_new h3 (.lst (([false,false,false,false,false,false]:List Bool).map V.bl))
      have ho3:=z3 _ _ (z2 _ _ ho1)
      refine ⟨_,rfl,ea,_,_,_,_,rfl,ho3,T.xge,rfl,T.xaj,_,rfl,iteT ⟨_,rfl,l3,[false,false,false,false,false,false],ea,_,rfl,rfl,ho3,SqL.of upd_same,_,rfl,?_⟩⟩
      exact q _ ((((s1.trans so).trans z1).trans z2).trans z3)
end
end W05
set_option Elab.async false
set_option linter.all false
set_option maxRecDepth 100000
namespace W05
open PySem L2
section
variable {P:Program} {w:World} {K:PySem.W.Frag} {mg:Str → Option Value} {base:Heap} {A:Adr}
theorem repL_of {H:Hp} {a:Addr} {xs:List Int} (h:LstAt H a xs):RepL K repI H a xs:=by
  refine ⟨_,h.ints,?_⟩
  clear h
  induction xs with
  | nil=>exact .nil
  | cons x xs ih=>exact .cons rfl ih
theorem cut_odd {xs:List Int}:cutV (xs.map V.int) none (some (((xs.map V.int).length:Nat) - 1 + ((xs.map V.int).length:Nat) % 2)) = (xs.take (xs.length - 1 + xs.length % 2)).map V.int:=by
  cases xs with
  | nil=>unfold cutV; simp
  | cons x xs =>
    rw [show ((((x :: xs).map V.int).length:Nat):Int) - 1 + (((x :: xs).map V.int).length:Nat) % 2 = (((x :: xs).length - 1 + (x :: xs).length % 2:Nat):Int) by rw [List.length_map,List.length_cons]; omega]
    rw [cut_front (by rw [List.length_map,List.length_cons]; omega),List.map_take]
theorem NsOk.rev {xs:List Int} (h:NsOk xs):NsOk xs.reverse:=fun n hn=>h n (List.mem_reverse.mp hn)
theorem chs_one {x:Int} {ks:List Nat} (h:Chs [x] ks):ks = [0]:=by
  have h1:=h.half
  have h2:=h.lt
  match ks,h1,h2 with
  | [k],_,h2 =>
    have:=h2 k List.mem_cons_self
    simp at this
    rw [this]
  | [],h1,_=>simp at h1
  | _ :: _ :: _,h1,_=>simp at h1; omega
def xkx (K:PySem.W.Frag) (A:Adr):Sp:=fun vs H Q _=>∃ (a:Addr) (ns:List Int),vs = [.ref a] ∧ SqX K H a (ns.map V.int) ∧ ns.length ≤ 63 ∧ Tb A H ∧ ∀ H',Q (.bl true) H'
set_option maxHeartbeats 4000000 in
theorem xkt (T:Txt K mg A):FnOk P w K mg base CX0 10 A.a_law A.d_law ["_law_script"] (xkx K A):=by
  have xhm:=xis (P:=P) (w:=w) (base:=base) T
  have xbf:=ok_bad (P:=P) (w:=w) (base:=base) T
  have xbg:=ok_stretched (P:=P) (w:=w) (base:=base) T
  have xdj:=ok_lpicked (P:=P) (w:=w) (base:=base) T
  have xj3:=xjN (P:=P) (w:=w) (base:=base) T
  have xiY:=xiu (P:=P) (w:=w) (base:=base) T
  refine T.F_law.ok xkv (fun vs H Q E h=>?_) (fun cdv Ar outer s H vs Q E hr h=>?_)
  · obtain ⟨a,ns,rfl,_⟩:=h
    rfl
  obtain ⟨a,ns,rfl,hS,hlen,hT,q⟩:=h
  refine ⟨_,(@pss_cons _ _ _ _ _ (@ps_set _ _ (1) _ _ _ _ xkv.nd rfl (Or.inl rfl) (@pe_call _ _ _ _ _ _ _ _ _ _ _ _ _ _ _ _ xhm (hr.mono (by decide)) rfl T.xif T.xh6 T.xfQ .nil pass0 (@pa_consN _ _ _ _ _ (@pv _ 0 _ _ (by rfl) (Or.inl rfl) (by decide) (by decide)) (@pa_nil _) (by rfl)) (by decide) (by rfl) (by rfl)) (by rfl) (Or.inl rfl)) (@pss_cons _ _ _ _ _ (@ps_if _ _ _ _ _ _ _ _ (@PW.pt _ _ _ (@pw_or _ _ _ _ _ _ _ (@pt_not _ _ _ _ (@pt_val _ _ _ (@pe_call _ _ _ _ _ _ _ _ _ _ _ _ _ _ _ _ xbf (hr.mono (by decide)) rfl T.xbt T.xbp T.xaI .nil pass0 (@pa_consN _ _ _ _ _ (@pe_int _ _ _ _) (@pa_consN _ _ _ _ _ (@pe_lst _ _ _ _ (@pa_nil _)) (@pa_nil _) (by rfl)) (by rfl)) (by decide) (by rfl) (by rfl)) (by intro _; rfl))) (@pw_or1 _ _ _ _ (@pt_not _ _ _ _ (@pt_val _ _ _ (@pe_call _ _ _ _ _ _ _ _ _ _ _ _ _ _ _ _ xbf (hr.mono (by decide)) rfl T.xbt T.xbp T.xaI .nil pass0 (@pa_consN _ _ _ _ _ (@pe_int _ _ _ _) (@pa_consN _ _ _ _ _ (@pe_lst _ _ _ _ (@pa_nil _)) (@pa_nil _) (by rfl)) (by rfl)) (by decide) (by rfl) (by rfl)) (by intro _; rfl)))))) (@pss_one _ _ _ (@ps_ret _ _ _ _ (@pe_bl _ _ _ _))) (@pss_nil _)) (@pss_cons _ _ _ _ _ (@ps_set _ _ (2) _ _ _ _ xkv.nd rfl (Or.inl rfl) (@pe_slice _ _ _ _ _ _ _ _ _ _ sl_list (@pv _ 1 _ _ (by rfl) (Or.inl rfl) (by decide) (by decide)) (@po_none _) (@po_some _ _ _ (@pe_op _ _ _ _ _ _ _ _ op_add (@pe_op _ _ _ _ _ _ _ _ op_sub (@pe_callB _ _ _ _ _ _ _ _ _ call_len_seq rfl T.b_len B.len (@pa_consN _ _ _ _ _ (@pv _ 1 _ _ (by rfl) (Or.inl rfl) (by decide) (by decide)) (@pa_nil _) (by rfl)) (by decide) (by decide) (by rfl) (by rfl)) (@pe_int _ _ _ _)) (@pe_op _ _ _ _ _ _ _ _ op_mod (@pe_callB _ _ _ _ _ _ _ _ _ call_len_seq rfl T.b_len B.len (@pa_consN _ _ _ _ _ (@pv _ 1 _ _ (by rfl) (Or.inl rfl) (by decide) (by decide)) (@pa_nil _) (by rfl)) (by decide) (by decide) (by rfl) (by rfl)) (@pe_int _ _ _ _))))) (by rfl) (Or.inl rfl)) (@pss_cons _ _ _ _ _ (@ps_if _ _ _ _ _ _ _ _ (@PW.pt _ _ _ (@pw_and _ _ _ _ _ _ _ (@pt_cmpR _ _ _ _ _ _ _ _ op_eqI (@pe_op _ _ _ _ _ _ _ _ op_mod (@pe_callB _ _ _ _ _ _ _ _ _ call_len_seq rfl T.b_len B.len (@pa_consN _ _ _ _ _ (@pv _ 1 _ _ (by rfl) (Or.inl rfl) (by decide) (by decide)) (@pa_nil _) (by rfl)) (by decide) (by decide) (by rfl) (by rfl)) (@pe_int _ _ _ _)) (@pe_int _ _ _ _) (nomark _)) (@pw_and1 _ _ _ _ (@pt_not _ _ _ _ (@pt_val _ _ _ (@pe_call _ _ _ _ _ _ _ _ _ _ _ _ _ _ _ _ xbf (hr.mono (by decide)) rfl T.xbt T.xbp T.xaI .nil pass0 (@pa_consN _ _ _ _ _ (@pe_int _ _ _ _) (@pa_consN _ _ _ _ _ (@pv _ 1 _ _ (by rfl) (Or.inl rfl) (by decide) (by decide)) (@pa_nil _) (by rfl)) (by rfl)) (by decide) (by rfl) (by rfl)) (by intro _; rfl)))))) (@pss_one _ _ _ (@ps_ret _ _ _ _ (@pe_bl _ _ _ _))) (@pss_nil _)) (@pss_cons _ _ _ _ _ (@ps_for _ _ _ _ _ _ _ _ PassesOwn.never rfl (@pi_tup _ _ _ _ (@pe_tup _ _ _ _ _ (@pa_consN _ _ _ _ _ (@pv _ 1 _ _ (by rfl) (Or.inl rfl) (by decide) (by decide)) (@pa_consN _ _ _ _ _ (@pe_slice3 _ _ _ _ _ _ _ _ _ _ _ (@pv _ 1 _ _ (by rfl) (Or.inl rfl) (by decide) (by decide)) (@po_none _) (@po_none _) (@po_some _ _ _ (@pe_un _ _ _ _ _ _ un_neg (@pe_int _ _ _ _)))) (@pa_consN _ _ _ _ _ (@pv _ 1 _ _ (by rfl) (Or.inl rfl) (by decide) (by decide)) (@pa_nil _) (by rfl)) (by rfl)) (by rfl)))) (@pg_name _ _ (3) _ xkv.nd rfl (Or.inl rfl) (Or.inl rfl)) (@pss_cons _ _ _ _ _ (@ps_set _ _ (4) _ _ _ _ xkv.nd rfl (Or.inl rfl) (@pe_callTy _ _ _ _ _ _ _ _ _ call_list_of rfl T.b_list B.list (@pa_consN _ _ _ _ _ (@pv _ 3 _ _ (by rfl) (Or.inl rfl) (by decide) (by decide)) (@pa_nil _) (by rfl)) (by decide) (by decide) (by rfl) (by rfl)) (by rfl) (Or.inl rfl)) (@pss_one _ _ _ (@ps_if _ _ _ _ _ _ _ _ (@PW.pt _ _ _ (@pw_and _ _ _ _ _ _ _ (@pt_cmpR _ _ _ _ _ _ _ _ (op_neL eqty_int hr.units0) (@pv _ 3 _ _ (by rfl) (Or.inl rfl) (by decide) (by decide)) (@pe_lst _ _ _ _ (@pa_nil _)) (nomark _)) (@pw_and1 _ _ _ _ (@PW.pt _ _ _ (@pw_or _ _ _ _ _ _ _ (@pt_not _ _ _ _ (@pt_val _ _ _ (@pe_call _ _ _ _ _ _ _ _ _ _ _ _ _ _ _ _ xbg (hr.mono (by decide)) rfl T.xbu T.xbq T.xaJ .nil pass0 (@pa_consN _ _ _ _ _ (@pv _ 3 _ _ (by rfl) (Or.inl rfl) (by decide) (by decide)) (@pa_consN _ _ _ _ _ (@pe_call _ _ _ _ _ _ _ _ _ _ _ _ _ _ _ _ xiY (hr.mono (by decide)) rfl T.xjI T.xjy T.xhA .nil passNo (@pa_consN _ _ _ _ _ (@pv _ 4 _ _ (by rfl) (Or.inl rfl) (by decide) (by decide)) (@pa_nil _) (by rfl)) (by decide) (by rfl) (by rfl)) (@pa_nil _) (by rfl)) (by rfl)) (by decide) (by rfl) (by rfl)) (by intro _; rfl))) (@pw_or1 _ _ _ _ (@pt_cmpR _ _ _ _ _ _ _ _ (op_neL eqty_int hr.units0) (@pv _ 4 _ _ (by rfl) (Or.inl rfl) (by decide) (by decide)) (@pv _ 3 _ _ (by rfl) (Or.inl rfl) (by decide) (by decide)) (nomark _)))))))) (@pss_one _ _ _ (@ps_ret _ _ _ _ (@pe_bl _ _ _ _))) (@pss_nil _)))) (by intro _; rfl)) (@pss_cons _ _ _ _ _ (@ps_for _ _ _ _ _ _ _ _ PassesOwn.never rfl (@pi_tup _ _ _ _ (@pe_tup _ _ _ _ _ (@pa_consN _ _ _ _ _ (@pv _ 2 _ _ (by rfl) (Or.inl rfl) (by decide) (by decide)) (@pa_consN _ _ _ _ _ (@pe_slice3 _ _ _ _ _ _ _ _ _ _ _ (@pv _ 2 _ _ (by rfl) (Or.inl rfl) (by decide) (by decide)) (@po_none _) (@po_none _) (@po_some _ _ _ (@pe_un _ _ _ _ _ _ un_neg (@pe_int _ _ _ _)))) (@pa_consN _ _ _ _ _ (@pv _ 2 _ _ (by rfl) (Or.inl rfl) (by decide) (by decide)) (@pa_nil _) (by rfl)) (by rfl)) (by rfl)))) (@pg_name _ _ (3) _ xkv.nd rfl (Or.inl rfl) (Or.inl rfl)) (@pss_cons _ _ _ _ _ (@ps_set _ _ (4) _ _ _ _ xkv.nd rfl (Or.inl rfl) (@pe_callTy _ _ _ _ _ _ _ _ _ call_list_of rfl T.b_list B.list (@pa_consN _ _ _ _ _ (@pv _ 3 _ _ (by rfl) (Or.inl rfl) (by decide) (by decide)) (@pa_nil _) (by rfl)) (by decide) (by decide) (by rfl) (by rfl)) (by rfl) (Or.inl rfl)) (@pss_one _ _ _ (@ps_if _ _ _ _ _ _ _ _ (@pt_cmpR _ _ _ _ _ _ _ _ (op_neL eqty_int hr.units0) (@pv _ 3 _ _ (by rfl) (Or.inl rfl) (by decide) (by decide)) (@pe_lst _ _ _ _ (@pa_nil _)) (nomark _)) (@pss_cons _ _ _ _ _ (@ps_set _ _ (5) _ _ _ _ xkv.nd rfl (Or.inl rfl) (@pe_call _ _ _ _ _ _ _ _ _ _ _ _ _ _ _ _ xj3 (hr.mono (by decide)) rfl T.xkh T.xkd T.xi5 .nil passNo (@pa_consN _ _ _ _ _ (@pv _ 4 _ _ (by rfl) (Or.inl rfl) (by decide) (by decide)) (@pa_nil _) (by rfl)) (by decide) (by rfl) (by rfl)) (by rfl) (Or.inl rfl)) (@pss_cons _ _ _ _ _ (@ps_if _ _ _ _ _ _ _ _ (@PW.pt _ _ _ (@pw_or _ _ _ _ _ _ _ (@pt_not _ _ _ _ (@pt_val _ _ _ (@pe_call _ _ _ _ _ _ _ _ _ _ _ _ _ _ _ _ xdj (hr.mono (by decide)) rfl T.xdX T.xdR T.xci .nil pass0 (@pa_consN _ _ _ _ _ (@pv _ 3 _ _ (by rfl) (Or.inl rfl) (by decide) (by decide)) (@pa_consN _ _ _ _ _ (@pv _ 5 _ _ (by rfl) (Or.inl rfl) (by decide) (by decide)) (@pa_nil _) (by rfl)) (by rfl)) (by decide) (by rfl) (by rfl)) (by intro _; rfl))) (@pw_or1 _ _ _ _ (@pt_cmpR _ _ _ _ _ _ _ _ (op_neL eqty_int hr.units0) (@pv _ 4 _ _ (by rfl) (Or.inl rfl) (by decide) (by decide)) (@pv _ 3 _ _ (by rfl) (Or.inl rfl) (by decide) (by decide)) (nomark _))))) (@pss_one _ _ _ (@ps_ret _ _ _ _ (@pe_bl _ _ _ _))) (@pss_nil _)) (@pss_one _ _ _ (@ps_expr _ _ _ _ (@pe_bm _ _ _ _ _ _ _ _ _ _ _ _ PySem.F.plainAttrs_list PySem.F.slot_list_append PySem.F.type_list_append mt_append (@pv _ 5 _ _ (by rfl) (Or.inl rfl) (by decide) (by decide)) (@pa_consN _ _ _ _ _ (@pe_int _ _ _ _) (@pa_nil _) (by rfl)) (by rfl) (by rfl) (by rfl) (by rfl) (by rfl)) (by rfl))))) (@pss_nil _)))) (by intro _; rfl)) (@pss_one _ _ _ (@ps_ret _ _ _ _ (@pe_and _ _ _ _ _ _ _ (@pe_cmpR _ _ _ _ _ _ _ _ (op_eqL eqty_int hr.units0) (@pe_call _ _ _ _ _ _ _ _ _ _ _ _ _ _ _ _ xj3 (hr.mono (by decide)) rfl T.xkh T.xkd T.xi5 .nil passNo (@pa_consN _ _ _ _ _ (@pe_lst _ _ _ _ (@pa_consN _ _ _ _ _ (@pe_int _ _ _ _) (@pa_nil _) (by rfl))) (@pa_nil _) (by rfl)) (by decide) (by rfl) (by rfl)) (@pe_lst _ _ _ _ (@pa_consN _ _ _ _ _ (@pe_int _ _ _ _) (@pa_nil _) (by rfl))) (nomark _)) (@pe_one _ _ _ _ _ (@pe_cmpR _ _ _ _ _ _ _ _ (op_eqP hr.units0) (@pe_call _ _ _ _ _ _ _ _ _ _ _ _ _ _ _ _ xiY (hr.mono (by decide)) rfl T.xjI T.xjy T.xhA .nil passNo (@pa_consN _ _ _ _ _ (@pe_lst _ _ _ _ (@pa_consN _ _ _ _ _ (@pe_int _ _ _ _) (@pa_nil _) (by rfl))) (@pa_nil _) (by rfl)) (by decide) (by rfl) (by rfl)) (@pe_tup _ _ _ _ _ (@pa_consN _ _ _ _ _ (@pe_int _ _ _ _) (@pa_consN _ _ _ _ _ (@pe_int _ _ _ _) (@pa_nil _) (by rfl)) (by rfl))) (nomark _)))))))))))),?_⟩
  refine ⟨_,rfl,a,ns,rfl,hS.sq,hlen,fun l1 xs H1 hO hxl hl1 hL s1=>?_⟩
  have hT1:Tb A H1:=hT.same s1
  dsimp only [gName]
  refine ⟨(by show 0 ≤ sizeLine; decide),fun e1 he1=>⟨e1,0,[],rfl,upd_same,(fun _ z=>nomatch z),by decide,hT1.same (same_new he1 _),.inr ⟨rfl,rfl⟩,fun H2 s2=>⟨_,rfl,iteF ?_⟩⟩⟩
  have s12:=(same_new he1 _).trans s2
  have hT2:Tb A H2:=hT1.same s12
  refine ⟨(by show 0 ≤ sizeLine; decide),fun e2 he2=>⟨e2,1,[],rfl,upd_same,(fun _ z=>nomatch z),by decide,hT2.same (same_new he2 _),.inl ⟨rfl,rfl⟩,fun H3 s3=>⟨_,rfl,iteF ?_⟩⟩⟩
  have s13:=s12.trans ((same_new he2 _).trans s3)
  have hT3:Tb A H3:=hT1.same s13
  have hL3:=Same.lst s13 hL
  refine ⟨_,rfl,_,rfl,l1,_,rfl,.inl hL3.ints,_,_,rfl,rfl,_,rfl,l1,_,rfl,.inl hL3.ints,_,_,rfl,rfl,by omega,_,_,rfl,rfl,_,rfl,l1,_,rfl,hL3.ints,fun l3 hl3=>?_⟩
  dsimp only
  rw [cut_odd]
  have s34:=same_new hl3 (.lst ((xs.take (xs.length - 1 + xs.length % 2)).map V.int))
  have hO4:LstAt (upd H3 l3 (.lst ((xs.take (xs.length - 1 + xs.length % 2)).map V.int))) l3 (xs.take (xs.length - 1 + xs.length % 2)):=upd_same
  generalize upd H3 l3 (.lst ((xs.take (xs.length - 1 + xs.length % 2)).map V.int)) = H4 at s34 hO4 ⊢
  have s34:Same H3 H4:=s34
  have hodd:(xs.take (xs.length - 1 + xs.length % 2)).length = xs.length - 1 + xs.length % 2:=by rw [List.length_take]; omega
  have hOd:NsOk (xs.take (xs.length - 1 + xs.length % 2)):=fun n hn=>hO n (List.mem_of_mem_take hn)
  have hod2:(xs.take (xs.length - 1 + xs.length % 2)) = [] ∨ (xs.take (xs.length - 1 + xs.length % 2)).length % 2 = 1:=by
    rcases Nat.eq_zero_or_pos xs.length with z | z
    · exact .inl (List.eq_nil_of_length_eq_zero (by rw [hodd,z]))
    · exact .inr (by rw [hodd]; omega)
  have hol:(xs.take (xs.length - 1 + xs.length % 2)).length ≤ 63:=by rw [hodd]; omega
  generalize xs.take (xs.length - 1 + xs.length % 2) = od at hO4 hodd hOd hod2 hol
  have hL4:=Same.lst s34 hL3
  have hT4:Tb A H4:=hT3.same s34
  dsimp only [gName]
  refine viaS (fun σ' H5=>σ' = [some (.ref a),some (.ref l1),some (.ref l3),none,none,none] ∧ Same H4 H5) (fun D2 k2=>?_) ?_
  · refine ⟨_,rfl,l1,_,rfl,.inl hL4.ints,_,_,rfl,rfl,by omega,_,_,rfl,rfl,_,rfl,?_⟩
    rw [List.length_map]
    by_cases hp:((xs.length:Nat):Int) % 2 = 0
    · rw [decT hp]
      exact iteT ⟨_,rfl,l1,1,xs,rfl,hL4,hO,by omega,hT4,.inl ⟨rfl,by omega⟩,fun H5 s5=>⟨_,rfl,iteF (k2 _ _ ⟨rfl,s5⟩)⟩⟩
    · rw [decF hp]
      exact iteF (iteF (k2 _ _ ⟨rfl,Same.refl _⟩))
  rintro σ' H5 ⟨rfl,s45⟩
  have hL5:=Same.lst s45 hL4
  have hO5:=Same.lst s45 hO4
  have hT5:Tb A H5:=hT4.same s45
  refine ⟨_,rfl,_,rfl,_,rfl,_,rfl,l1,_,rfl,hL5.ints,(by decide),fun l2 hl2=>?_⟩
  rw [pickL_rev,← List.map_reverse]
  have s56:=same_new hl2 (.lst (xs.reverse.map V.int))
  have hR6:LstAt (upd H5 l2 (.lst (xs.reverse.map V.int))) l2 xs.reverse:=upd_same
  generalize upd H5 l2 (.lst (xs.reverse.map V.int)) = H6 at s56 hR6 ⊢
  have s56:Same H5 H6:=s56
  refine ⟨_,rfl,(by show 3 ≤ sizeLine; decide),fun tu htu=>⟨tu,rfl,⟨_,SqT.of upd_same⟩,?_⟩⟩
  have s67:=s56.trans (same_new htu (.tup [.ref l1,.ref l2,.ref l1]))
  have hT7:Tb A (upd H6 tu (.tup [.ref l1,.ref l2,.ref l1])):=hT5.same s67
  have hL7:=Same.lst s67 hL5
  have hO7:=Same.lst s67 hO5
  have hR7:=Same.lst (same_new htu (.tup [.ref l1,.ref l2,.ref l1])) hR6
  have hTu:(upd H6 tu (.tup [.ref l1,.ref l2,.ref l1])) tu = some (.tup [.ref l1,.ref l2,.ref l1]):=upd_same
  generalize upd H6 tu (.tup [.ref l1,.ref l2,.ref l1]) = H7 at s67 hT7 hL7 hO7 hR7 hTu ⊢
  refine for_tup (K:=K) (a:=tu) (xs:=[.ref l1,.ref l2,.ref l1]) (fun i σ H'=>∃ v3 v4:Option V,σ = [some (.ref a),some (.ref l1),some (.ref l3),v3,v4,none] ∧ Same H7 H') ⟨_,_,rfl,Same.refl _⟩ ?_ ?_ ?_
  · rintro i σ H' hi ⟨v3,v4,rfl,sH⟩
    exact SqT.of (sH _ _ hTu)
  · rintro i x σ H' hx ⟨v3,v4,rfl,sH⟩
    have hmem:∃ b ys,x = .ref b ∧ LstAt H7 b ys ∧ NsOk ys ∧ ys.length ≤ 63:=by
      match i,hx with
      | 0,hx=>cases hx; exact ⟨l1,xs,rfl,hL7,hO,by omega⟩
      | 1,hx=>cases hx; exact ⟨l2,xs.reverse,rfl,hR7,hO.rev,by rw [List.length_reverse]; omega⟩
      | 2,hx=>cases hx; exact ⟨l1,xs,rfl,hL7,hO,by omega⟩
      | i + 3,hx=>simp at hx
    obtain ⟨b,ys,rfl,hB,hOy,hly⟩:=hmem
    have hB1:=Same.lst sH hB
    dsimp only [gName]
    refine ⟨_,rfl,b,_,rfl,.inl hB1.ints,fun h hh=>?_⟩
    have sa:=same_new hh (.lst (ys.map V.int))
    have hH:LstAt (upd H' h (.lst (ys.map V.int))) h ys:=upd_same
    generalize upd H' h (.lst (ys.map V.int)) = G1 at sa hH ⊢
    have sa:Same H' G1:=sa
    have hB2:=Same.lst sa hB1
    dsimp only [gName]
    refine ⟨_,rfl,(by show 0 ≤ sizeLine; decide),fun e he=>⟨b,e,ys,[],rfl,rfl,repL_of (Same.lst (same_new he _) hB2),repL_of upd_same,_,rfl,?_⟩⟩
    have sb:=same_new he (.lst [])
    by_cases h0:ys = []
    · rw [decT h0]
      exact iteF (iteF ⟨_,_,rfl,sH.trans (sa.trans sb)⟩)
    · rw [decF h0]
      refine iteT ⟨_,rfl,_,rfl,h,ys,rfl,Same.lst sb hH,hOy,by omega,fun z=>absurd z h0,fun i j t G2 hij hj hpre sc _ hTt=>?_⟩
      have hB3:=Same.lst (sb.trans sc) hB2
      refine ⟨b,t,ys,i,j,rfl,hB3,hTt,hij,hj,hpre,fun G3 sd=>⟨_,rfl,iteF ?_⟩⟩
      have se:=(sb.trans sc).trans sd
      refine ⟨_,rfl,_,rfl,h,b,ys,ys,rfl,rfl,repL_of (Same.lst se hH),repL_of (Same.lst se hB2),_,rfl,?_⟩
      rw [decT (rfl:ys = ys)]
      exact iteF ⟨_,_,rfl,sH.trans (sa.trans se)⟩
  rintro σ H' ⟨v3,v4,rfl,s78⟩
  have hO8:=Same.lst s78 hO7
  have hT8:Tb A H':=hT7.same s78
  clear hl2 htu s56 hR6 s67 hL7 hO7 hR7 hTu
  refine ⟨_,rfl,_,rfl,_,rfl,_,rfl,l3,_,rfl,hO8.ints,(by decide),fun l4 hl4=>?_⟩
  rw [pickL_rev,← List.map_reverse]
  have s89:=same_new hl4 (.lst (od.reverse.map V.int))
  have hR9:LstAt (upd H' l4 (.lst (od.reverse.map V.int))) l4 od.reverse:=upd_same
  generalize upd H' l4 (.lst (od.reverse.map V.int)) = H9 at s89 hR9 ⊢
  have s89:Same H' H9:=s89
  refine ⟨_,rfl,(by show 3 ≤ sizeLine; decide),fun tv htv=>⟨tv,rfl,⟨_,SqT.of upd_same⟩,?_⟩⟩
  have s9x:=s89.trans (same_new htv (.tup [.ref l3,.ref l4,.ref l3]))
  have hTx:Tb A (upd H9 tv (.tup [.ref l3,.ref l4,.ref l3])):=hT8.same s9x
  have hOx:=Same.lst s9x hO8
  have hRx:=Same.lst (same_new htv (.tup [.ref l3,.ref l4,.ref l3])) hR9
  have hTv:(upd H9 tv (.tup [.ref l3,.ref l4,.ref l3])) tv = some (.tup [.ref l3,.ref l4,.ref l3]):=upd_same
  generalize upd H9 tv (.tup [.ref l3,.ref l4,.ref l3]) = HX at s9x hTx hOx hRx hTv ⊢
  refine for_tup (K:=K) (a:=tv) (xs:=[.ref l3,.ref l4,.ref l3]) (fun i σ H'=>∃ v3 v4 v5:Option V,σ = [some (.ref a),some (.ref l1),some (.ref l3),v3,v4,v5] ∧ SameT A.lt_picked HX H' ∧ Tb A H') ⟨_,_,_,rfl,SameT.refl,hTx⟩ ?_ ?_ ?_
  · rintro i σ H' hi ⟨v3,v4,v5,rfl,sH,hT'⟩
    exact SqT.of (hTx.tup sH hTv)
  · rintro i x σ H' hx ⟨v3,v4,v5,rfl,sH,hT'⟩
    have hmem:∃ b ys,x = .ref b ∧ LstAt HX b ys ∧ NsOk ys ∧ ys.length ≤ 63 ∧ (ys = [] ∨ ys.length % 2 = 1):=by
      match i,hx with
      | 0,hx=>cases hx; exact ⟨l3,od,rfl,hOx,hOd,hol,hod2⟩
      | 1,hx=>cases hx; exact ⟨l4,od.reverse,rfl,hRx,hOd.rev,by rw [List.length_reverse]; exact hol,hod2.elim (fun z=>.inl (by rw [z]; rfl)) (fun z=>.inr (by rw [List.length_reverse]; exact z))⟩
      | 2,hx=>cases hx; exact ⟨l3,od,rfl,hOx,hOd,hol,hod2⟩
      | i + 3,hx=>simp at hx
    obtain ⟨b,ys,rfl,hB,hOy,hly,hpar⟩:=hmem
    have hB1:LstAt H' b ys:=hTx.lst sH hB
    dsimp only [gName]
    refine ⟨_,rfl,b,_,rfl,.inl hB1.ints,fun h hh=>?_⟩
    have sa:=same_new hh (.lst (ys.map V.int))
    have hH:LstAt (upd H' h (.lst (ys.map V.int))) h ys:=upd_same
    generalize upd H' h (.lst (ys.map V.int)) = G1 at sa hH ⊢
    have sa:Same H' G1:=sa
    have hB2:=Same.lst sa hB1
    have hTa:Tb A G1:=hT'.same sa
    dsimp only [gName]
    refine ⟨_,rfl,(by show 0 ≤ sizeLine; decide),fun e he=>⟨b,e,ys,[],rfl,rfl,repL_of (Same.lst (same_new he _) hB2),repL_of upd_same,_,rfl,?_⟩⟩
    have sb:=same_new he (.lst [])
    have hTb:Tb A (upd G1 e (.lst [])):=hTa.same sb
    by_cases h0:ys = []
    · rw [decT h0]
      exact iteF ⟨_,_,_,rfl,sH.trans (sa.trans sb).sameT,hTb⟩
    · rw [decF h0]
      have ho1:ys.length % 2 = 1:=hpar.resolve_left h0
      refine iteT ⟨_,rfl,h,ys,rfl,Same.lst sb hH,hOy,hly,hTb,fun z=>by omega,fun f ks G2 _ sc hTc hf hF hC=>?_⟩
      have hB3:LstAt G2 b ys:=hTb.lst sc (Same.lst sb hB2)
      have hH3:LstAt G2 h ys:=hTb.lst sc (Same.lst sb hH)
      have sXc:SameT A.lt_picked HX G2:=(sH.trans (sa.trans sb).sameT).trans sc
      have hfX:HX f = none:=by
        cases z:HX f with
        | none=>rfl
        | some o =>
          have n:f ≠ A.lt_picked:=fun y=>by
            rcases hTb with t | ⟨c,t,_⟩
            · rw [← y,hf] at t; cases t
            · rw [← y,hf] at t; cases t
          have:=(sH.trans (sa.trans sb).sameT) f o n z
          rw [hf] at this
          cases this
      dsimp only [gName]
      refine viaS (fun σ' G4=>σ' = [some (.ref a),some (.ref l1),some (.ref l3),some (.ref b),some (.ref h),some (.ref f)] ∧ Same G2 G4) (fun D2 k2=>?_) ?_
      · refine ⟨_,rfl,_,rfl,b,f,ys,ks,rfl,hB3,hF,hC,by omega,fun G3 sd=>⟨_,rfl,iteF ?_⟩⟩
        refine ⟨_,rfl,_,rfl,h,b,ys,ys,rfl,rfl,repL_of (Same.lst sd hH3),repL_of (Same.lst sd hB3),_,rfl,?_⟩
        rw [decT (rfl:ys = ys)]
        exact iteF (k2 _ _ ⟨rfl,sd⟩)
      · rintro σ' G4 ⟨rfl,sd⟩
        have hF4:NatsAt G4 f ks:=sd _ _ hF
        refine ⟨_,rfl,.inl ⟨rfl,_,hF4.seq⟩,f,_,_,rfl,rfl,hF4,?_,_,_,_,rfl,sameT_put (sXc.trans sd.sameT) hfX,Tb.put (hTc.same sd) hF4⟩
        rw [List.length_map]
        have:=hC.half
        exact small1000 (by omega)
  rintro σ HY ⟨v3,v4,v5,rfl,sXY,hTY⟩
  refine ⟨(by show 1 ≤ sizeLine; decide),fun c1 hc1=>⟨c1,[5],rfl,upd_same,?_,by decide,hTY.same (same_new hc1 _),fun z=>(by simp at z),fun f ks G1 _ sa hTa hf hF hC=>?_⟩⟩
  · intro n hn
    rw [List.mem_singleton.mp hn]
    decide
  have ek:=chs_one hC
  subst ek
  refine ⟨(by show 1 ≤ sizeLine; decide),fun c2 hc2=>⟨f,c2,[0],[0],rfl,rfl,repL_of (Same.lst (same_new hc2 _) hF),repL_of upd_same,_,rfl,?_⟩⟩
  rw [decT (rfl:([0]:List Int) = [0])]
  refine iteT ⟨(by show 1 ≤ sizeLine; decide),fun c3 hc3=>⟨c3,[7],rfl,upd_same,?_,by decide,fun z=>(by cases z),fun i j t G2 hij hj _ sb _ ht=>?_⟩⟩
  · intro n hn
    rw [List.mem_singleton.mp hn]
    decide
  have hj0:j = 0:=by simp at hj; exact hj
  have hi0:i = 0:=by omega
  subst hj0
  subst hi0
  refine ⟨(by show 2 ≤ sizeLine; decide),fun c4 hc4=>⟨t,c4,(0,0),(0,0),rfl,rfl,SqT.of ((same_new hc4 _) _ _ ht),SqT.of upd_same,?_⟩⟩
  exact q _
end
end W05
set_option Elab.async false
set_option linter.all false
namespace H05
open PySem PySem.W PySem.Calls PyProof.Rows
noncomputable section
set_option maxRecDepth 100000
theorem laid:(PySem.Challenge.pw_wheelrow_k05_sums.main.body.isEmpty) = false:=by
  cases h:PySem.Challenge.pw_wheelrow_k05_sums.main.body.isEmpty with
  | false=>rfl
  | true =>
    have t:(!PySem.Challenge.pw_wheelrow_k05_sums.main.body.isEmpty) = true:=by k_qdec
    rw [h] at t
    cases t
abbrev p':Program:=PySem.W.Fast.tw12919454476104157536
abbrev pq:Program:=PySem.Challenge.pw_wheelrow_k05_sums
theorem pq_eq:pq = p':=by
  have _:=laid
  exact PySem.W.Fast.te12919454476104157536
abbrev S (s:String):Str:=Str.ofString s
def tpOf (p:Program) (i:Nat):Stmt:=p.main.body.getD i (.Pass ⟨0,0,0,0⟩)
abbrev tp (i:Nat):Stmt:=tpOf p' i
def fA (s:Stmt):Arguments:=match s with
  | .FunctionDef _ a _ _ _ _ _ _ _ _=>a
  | _=>{ posonlyargs:=[],args:=[],vararg:=none,kwonlyargs:=[],kw_defaults:=[],kwarg:=none,defaults:=[] }
def fB (s:Stmt):List Stmt:=match s with
  | .FunctionDef _ _ b _ _ _ _ _ _ _=>b
  | _=>[]
def fS (s:Stmt):Scope:=match s with
  | .FunctionDef _ _ _ _ _ _ sc _ _ _=>sc
  | _=>{ kind:=.function,names:=[],isGenerator:=false,isCoroutine:=false }
abbrev vi (n t:Nat):Value:=.int (.ofNat n) t
abbrev vs (s:Str) (t:Nat):Value:=.str s t
abbrev vr (n:Nat):Value:=.ref n
abbrev de (P:Params) (s:Str) (t:Nat) (v:Value):DictEntry:=⟨PyData.keyHash P s,.str s t,v⟩
abbrev c0:Str:=⟨⟨[95,95,110,97,109,101,95,95]⟩⟩
abbrev c1:Str:=⟨⟨[98,117,105,108,116,105,110,115]⟩⟩
abbrev c2:Str:=⟨⟨[95,95,100,111,99,95,95]⟩⟩
abbrev c3:Str:=⟨⟨[95,95,112,97,99,107,97,103,101,95,95]⟩⟩
abbrev c4:Str:=⟨⟨[95,95,108,111,97,100,101,114,95,95]⟩⟩
abbrev c5:Str:=⟨⟨[95,95,115,112,101,99,95,95]⟩⟩
abbrev c160:Str:=⟨⟨[95,95,109,97,105,110,95,95]⟩⟩
abbrev c161:Str:=⟨⟨[95,95,97,110,110,111,116,97,116,105,111,110,115,95,95]⟩⟩
abbrev c162:Str:=⟨⟨[95,95,98,117,105,108,116,105,110,115,95,95]⟩⟩
abbrev c163:Str:=⟨⟨[95,95,102,105,108,101,95,95]⟩⟩
abbrev c164:Str:=⟨⟨[47,99,108,97,105,109,47,99,117,116,46,112,121]⟩⟩
abbrev c165:Str:=⟨⟨[95,95,99,97,99,104,101,100,95,95]⟩⟩
abbrev c166:Str:=⟨⟨[60,109,111,100,117,108,101,62]⟩⟩
abbrev c167:Str:=⟨⟨[108,97,119,95,119,104,101,101,108,114,111,119,95,107,48,53,95,115,117,109,115]⟩⟩
abbrev c168:Str:=⟨⟨[82,101,115,116,69,114,114,111,114]⟩⟩
abbrev c169:Str:=⟨⟨[66,97,100,82,101,115,116,115]⟩⟩
abbrev c170:Str:=⟨⟨[66,97,100,78,117,109,98,101,114,115]⟩⟩
abbrev c171:Str:=⟨⟨[66,97,100,82,111,117,110,100]⟩⟩
abbrev c172:Str:=⟨⟨[66,97,100,82,101,115,116]⟩⟩
abbrev c173:Str:=⟨⟨[66,97,100,67,111,117,110,116]⟩⟩
abbrev c174:Str:=⟨⟨[66,97,100,84,101,120,116]⟩⟩
abbrev c175:Str:=⟨⟨[71,82,69,65,84,69,83,84,95,78,85,77,66,69,82]⟩⟩
abbrev c176:Str:=⟨⟨[105,115,95,119,104,111,108,101]⟩⟩
abbrev c177:Str:=⟨⟨[105,115,95,110,117,109,98,101,114]⟩⟩
abbrev c178:Str:=⟨⟨[97,114,101,95,110,117,109,98,101,114,115]⟩⟩
abbrev c179:Str:=⟨⟨[103,111,101,115,95,105,110,116,111]⟩⟩
abbrev c180:Str:=⟨⟨[112,97,114,116,95,119,105,116,104,95,116,105,109,101,115]⟩⟩
abbrev c181:Str:=⟨⟨[116,117,114,110,101,100,95,98,97,99,107]⟩⟩
abbrev c182:Str:=⟨⟨[115,116,114,101,116,99,104]⟩⟩
abbrev c183:Str:=⟨⟨[99,104,111,115,101,110]⟩⟩
abbrev c184:Str:=⟨⟨[112,114,105,109,101,115,95,111,102]⟩⟩
abbrev c185:Str:=⟨⟨[103,114,111,117,112,101,100]⟩⟩
abbrev c186:Str:=⟨⟨[116,111,103,101,116,104,101,114]⟩⟩
abbrev c187:Str:=⟨⟨[112,105,99,107,101,100]⟩⟩
abbrev c188:Str:=⟨⟨[99,104,97,110,103,101,115]⟩⟩
abbrev c189:Str:=⟨⟨[114,101,97,99,104,101,100,95,115,117,109,115]⟩⟩
abbrev c190:Str:=⟨⟨[110,101,119,95,115,117,109]⟩⟩
abbrev c191:Str:=⟨⟨[95,108,97,119,95,99,101,108,108,95,97,116]⟩⟩
abbrev c192:Str:=⟨⟨[95,108,97,119,95,100,114,97,119]⟩⟩
abbrev c193:Str:=⟨⟨[95,108,97,119,95,114,111,119]⟩⟩
abbrev c194:Str:=⟨⟨[95,108,97,119,95,112,97,114,116]⟩⟩
abbrev c195:Str:=⟨⟨[95,108,97,119,95,119,104,111,108,101]⟩⟩
abbrev c196:Str:=⟨⟨[95,108,97,119,95,110,117,109,98,101,114,115]⟩⟩
abbrev c197:Str:=⟨⟨[95,108,97,119,95,115,116,114,101,116,99,104,101,100]⟩⟩
abbrev c198:Str:=⟨⟨[95,108,97,119,95,112,105,99,107,101,100]⟩⟩
abbrev c199:Str:=⟨⟨[95,108,97,119,95,98,97,100,95,99,111,117,110,116]⟩⟩
abbrev c200:Str:=⟨⟨[108,97,119]⟩⟩
abbrev c201:Str:=⟨⟨[95,95,109,111,100,117,108,101,95,95]⟩⟩
abbrev c202:Str:=⟨⟨[119,104,101,101,108,114,111,119,46,101,114,114,111,114,115]⟩⟩
abbrev c203:Str:=⟨⟨[95,95,113,117,97,108,110,97,109,101,95,95]⟩⟩
abbrev c204:Str:=⟨⟨[95,95,102,105,114,115,116,108,105,110,101,110,111,95,95]⟩⟩
abbrev c205:Str:=⟨⟨[95,95,115,116,97,116,105,99,95,97,116,116,114,105,98,117,116,101,115,95,95]⟩⟩
abbrev c206:Str:=⟨⟨[95,95,119,101,97,107,114,101,102,95,95]⟩⟩
abbrev c207:Str:=⟨⟨[118,97,108,117,101]⟩⟩
abbrev c208:Str:=⟨⟨[119,104,101,101,108,114,111,119,46,110,117,109,98,101,114,115]⟩⟩
abbrev c209:Str:=⟨⟨[112,97,114,116]⟩⟩
abbrev c210:Str:=⟨⟨[110,117,109,98,101,114]⟩⟩
abbrev c211:Str:=⟨⟨[111,110,101]⟩⟩
abbrev c212:Str:=⟨⟨[111,116,104,101,114]⟩⟩
abbrev c213:Str:=⟨⟨[111,102,116,101,110]⟩⟩
abbrev c214:Str:=⟨⟨[108,101,102,116]⟩⟩
abbrev c215:Str:=⟨⟨[108,101,102,116,95,111,102,116,101,110]⟩⟩
abbrev c216:Str:=⟨⟨[119,104,111,108,101]⟩⟩
abbrev c217:Str:=⟨⟨[102,111,108,108,111,119,105,110,103]⟩⟩
abbrev c218:Str:=⟨⟨[102,111,108,108,111,119,105,110,103,95,111,102,116,101,110]⟩⟩
abbrev c219:Str:=⟨⟨[111,116,104,101,114,95,111,102,116,101,110]⟩⟩
abbrev c220:Str:=⟨⟨[116,117,114,110]⟩⟩
abbrev c221:Str:=⟨⟨[110,117,109,98,101,114,115]⟩⟩
abbrev c222:Str:=⟨⟨[98,101,103,105,110,115]⟩⟩
abbrev c223:Str:=⟨⟨[108,97,115,116]⟩⟩
abbrev c224:Str:=⟨⟨[116,111,116,97,108]⟩⟩
abbrev c225:Str:=⟨⟨[119,104,101,101,108,114,111,119,46,115,117,109,115]⟩⟩
abbrev c226:Str:=⟨⟨[99,111,117,110,116]⟩⟩
abbrev c227:Str:=⟨⟨[112,114,105,109,101,115]⟩⟩
abbrev c228:Str:=⟨⟨[112,114,105,109,101]⟩⟩
abbrev c229:Str:=⟨⟨[103,114,111,117,112,115]⟩⟩
abbrev c230:Str:=⟨⟨[112,108,97,99,101,115]⟩⟩
abbrev c231:Str:=⟨⟨[103,114,111,117,112]⟩⟩
abbrev c232:Str:=⟨⟨[103,97,105,110,115]⟩⟩
abbrev c233:Str:=⟨⟨[119,97,110,116,101,100]⟩⟩
abbrev c234:Str:=⟨⟨[114,101,97,99,104,101,100]⟩⟩
abbrev c235:Str:=⟨⟨[99,104,97,110,103,101,100]⟩⟩
abbrev c236:Str:=⟨⟨[112,108,97,99,101]⟩⟩
abbrev c237:Str:=⟨⟨[103,97,105,110]⟩⟩
abbrev c238:Str:=⟨⟨[105,110,115,105,100,101]⟩⟩
abbrev c239:Str:=⟨⟨[111,117,116,115,105,100,101]⟩⟩
abbrev c240:Str:=⟨⟨[109,105,100,100,108,101]⟩⟩
abbrev c241:Str:=⟨⟨[95,108,97,119,95,115,99,114,105,112,116]⟩⟩
abbrev c242:Str:=⟨⟨[95,108,97,119,95,107]⟩⟩
abbrev c243:Str:=⟨⟨[95,108,97,119,95,99,101,108,108]⟩⟩
abbrev c244:Str:=⟨⟨[95,108,97,119,95,109,97,110,121]⟩⟩
abbrev c245:Str:=⟨⟨[95,108,97,119,95,112,114,105,109,101,115]⟩⟩
abbrev c246:Str:=⟨⟨[95,108,97,119,95,107,105,110,100]⟩⟩
abbrev c247:Str:=⟨⟨[95,108,97,119,95,98,121]⟩⟩
abbrev c248:Str:=⟨⟨[95,108,97,119,95,109,111,115,116]⟩⟩
abbrev c249:Str:=⟨⟨[95,108,97,119,95,102,111,117,110,100]⟩⟩
abbrev c250:Str:=⟨⟨[95,108,97,119,95,110,117,109,98,101,114]⟩⟩
abbrev c251:Str:=⟨⟨[95,108,97,119,95,111,110,101]⟩⟩
abbrev c252:Str:=⟨⟨[95,108,97,119,95,111,116,104,101,114]⟩⟩
abbrev c253:Str:=⟨⟨[95,108,97,119,95,110,117,109,98,101,114,115,95,104,101,114,101]⟩⟩
abbrev c254:Str:=⟨⟨[95,108,97,119,95,102,105,114,115,116]⟩⟩
abbrev c255:Str:=⟨⟨[95,108,97,119,95,108,97,115,116]⟩⟩
abbrev c256:Str:=⟨⟨[95,108,97,119,95,97,115,107]⟩⟩
abbrev c257:Str:=⟨⟨[101,114,114,111,114]⟩⟩
abbrev c258:Str:=⟨⟨[95,108,97,119,95,111,116,104,101,114,115]⟩⟩
abbrev c259:Str:=⟨⟨[95,108,97,119,95,111,100,100]⟩⟩
abbrev c260:Str:=⟨⟨[95,108,97,119,95,115,111,109,101]⟩⟩
abbrev c261:Str:=⟨⟨[95,108,97,119,95,104,97,110,100,101,100]⟩⟩
abbrev l0:String:=PySem.W.SL.s14018661285674007319x4
abbrev l1:String:=PySem.W.S.litE [PySem.W.S.mk8 98 rfl,PySem.W.S.mk8 117 rfl,PySem.W.S.mk8 105 rfl,PySem.W.S.mk8 108 rfl,PySem.W.S.mk8 116 rfl,PySem.W.S.mk8 105 rfl,PySem.W.S.mk8 110 rfl,PySem.W.S.mk8 115 rfl,PySem.W.S.mk8 46 rfl,PySem.W.S.mk8 95 rfl,PySem.W.S.mk8 95 rfl,PySem.W.S.mk8 100 rfl,PySem.W.S.mk8 111 rfl,PySem.W.S.mk8 99 rfl,PySem.W.S.mk8 95 rfl,PySem.W.S.mk8 95 rfl,PySem.W.S.mk8 58 rfl,PySem.W.S.mk8 115 rfl,PySem.W.S.mk8 116 rfl,PySem.W.S.mk8 114 rfl,PySem.W.S.mk8 35 rfl,PySem.W.S.mk8 111 rfl,PySem.W.S.mk8 112 rfl,PySem.W.S.mk8 97 rfl,PySem.W.S.mk8 113 rfl,PySem.W.S.mk8 117 rfl,PySem.W.S.mk8 101 rfl] [98,117,105,108,116,105,110,115,46,95,95,100,111,99,95,95,58,115,116,114,35,111,112,97,113,117,101] rfl rfl
abbrev l2:String:=PySem.W.S.litE [PySem.W.S.mk8 98 rfl,PySem.W.S.mk8 117 rfl,PySem.W.S.mk8 105 rfl,PySem.W.S.mk8 108 rfl,PySem.W.S.mk8 116 rfl,PySem.W.S.mk8 105 rfl,PySem.W.S.mk8 110 rfl,PySem.W.S.mk8 115 rfl,PySem.W.S.mk8 46 rfl,PySem.W.S.mk8 95 rfl,PySem.W.S.mk8 95 rfl,PySem.W.S.mk8 112 rfl,PySem.W.S.mk8 97 rfl,PySem.W.S.mk8 99 rfl,PySem.W.S.mk8 107 rfl,PySem.W.S.mk8 97 rfl,PySem.W.S.mk8 103 rfl,PySem.W.S.mk8 101 rfl,PySem.W.S.mk8 95 rfl,PySem.W.S.mk8 95 rfl,PySem.W.S.mk8 58 rfl,PySem.W.S.mk8 115 rfl,PySem.W.S.mk8 116 rfl,PySem.W.S.mk8 114 rfl,PySem.W.S.mk8 35 rfl,PySem.W.S.mk8 111 rfl,PySem.W.S.mk8 112 rfl,PySem.W.S.mk8 97 rfl,PySem.W.S.mk8 113 rfl,PySem.W.S.mk8 117 rfl,PySem.W.S.mk8 101 rfl] [98,117,105,108,116,105,110,115,46,95,95,112,97,99,107,97,103,101,95,95,58,115,116,114,35,111,112,97,113,117,101] rfl rfl
abbrev l3:String:=PySem.W.S.litE [PySem.W.S.mk8 98 rfl,PySem.W.S.mk8 117 rfl,PySem.W.S.mk8 105 rfl,PySem.W.S.mk8 108 rfl,PySem.W.S.mk8 116 rfl,PySem.W.S.mk8 105 rfl,PySem.W.S.mk8 110 rfl,PySem.W.S.mk8 115 rfl,PySem.W.S.mk8 46 rfl,PySem.W.S.mk8 95 rfl,PySem.W.S.mk8 95 rfl,PySem.W.S.mk8 108 rfl,PySem.W.S.mk8 111 rfl,PySem.W.S.mk8 97 rfl,PySem.W.S.mk8 100 rfl,PySem.W.S.mk8 101 rfl,PySem.W.S.mk8 114 rfl,PySem.W.S.mk8 95 rfl,PySem.W.S.mk8 95 rfl,PySem.W.S.mk8 58 rfl,PySem.W.S.mk8 115 rfl,PySem.W.S.mk8 104 rfl,PySem.W.S.mk8 97 rfl,PySem.W.S.mk8 114 rfl,PySem.W.S.mk8 101 rfl,PySem.W.S.mk8 100 rfl,PySem.W.S.mk8 35 rfl,PySem.W.S.mk8 111 rfl,PySem.W.S.mk8 112 rfl,PySem.W.S.mk8 97 rfl,PySem.W.S.mk8 113 rfl,PySem.W.S.mk8 117 rfl,PySem.W.S.mk8 101 rfl] [98,117,105,108,116,105,110,115,46,95,95,108,111,97,100,101,114,95,95,58,115,104,97,114,101,100,35,111,112,97,113,117,101] rfl rfl
abbrev l4:String:=PySem.W.SL.s11665532747177232413x24
abbrev l5:String:=PySem.W.SL.s15183661809925369436x15
abbrev l63:String:=PySem.W.SL.s2742458400755230247x6
abbrev l70:String:=PySem.W.SL.s4290257624100764138x5
abbrev l71:String:=PySem.W.SL.s2766695959194262286x5
abbrev l72:String:=PySem.W.SL.s17162191345867700912x4
abbrev l74:String:=PySem.W.SL.s4278001404047624695x13
abbrev l76:String:=PySem.W.SL.s5946037652744460706x9
abbrev l97:String:=PySem.W.SL.s6070975301684473832x10
abbrev l150:String:=PySem.W.SL.s7097527257260152453x26
abbrev l152:String:=PySem.W.SL.s5856160107412720595x4
abbrev l153:String:=PySem.W.SL.s658472552662922059x5
abbrev l154:String:=PySem.W.SL.s11030030927630378310x26
abbrev l155:String:=PySem.W.SL.s10062305145149207511x16
abbrev l156:String:=PySem.W.SL.s4209523147560561109x18
abbrev l157:String:=PySem.W.SL.s14755015743595814543x17
abbrev l158:String:=PySem.W.SL.s10220274742760427390x26
abbrev l159:String:=PySem.W.SL.s4860613602091757760x24
abbrev l160:String:=PySem.W.SL.s7174869446012820540x8
abbrev o0 (P:Params):Obj:=⟨(.type l71),none,(.seq ⟨[]⟩ 0),⟨[]⟩⟩
abbrev o1 (P:Params):Obj:=⟨.none,none,(.fields ⟨[]⟩),⟨[]⟩⟩
abbrev o2 (P:Params):Obj:=⟨(.type l152),none,(.fields ⟨[(vs c166 182),(vs c166 183),(vs c164 184),(vi 1 0),(vi 0 0),(vi 0 0),(vi 0 0),(vi 0 0),(vr 11),(.bool false),(vi 181 0),(vr 12),.none,.none,.none,.none,(vi 185 0),(vi 1 0),(vs c164 186)]⟩),⟨[]⟩⟩
abbrev o3 (P:Params):Obj:=⟨(.type l153),none,.plain,⟨[some (vr 13),some (vr 3),some (vr 3),none,some (vs c160 164),none,some (vr 0)]⟩⟩
abbrev o4 (P:Params):Obj:=⟨(.type l0),none,(.dict ⟨((de P c0 165 (vs c167 447)) :: (de P c2 166 .none) :: (de P c3 167 .none) :: (de P c4 168 (.builtin l150)) :: (de P c5 169 .none) :: (de P c161 170 (vr 6)) :: (de P c162 171 (vr 4)) :: (de P c163 173 (vs c164 172)) :: (de P c165 174 .none) :: (de P c168 206 (vr 24)) :: (de P c169 222 (vr 37)) :: (de P c170 238 (vr 49)) :: (de P c171 254 (vr 61)) :: (de P c172 270 (vr 73)) :: (de P c173 286 (vr 85)) :: (de P c174 302 (vr 97)) :: (de P c175 306 (vi 1000000 305)) :: (de P c176 313 (vr 106)) :: (de P c177 320 (vr 113)) :: (de P c178 326 (vr 118)) :: (de P c179 334 (vr 125)) :: (de P c180 350 (vr 132)) :: (de P c181 358 (vr 139)) :: (de P c182 370 (vr 146)) :: (de P c183 376 (vr 151)) :: (de P c184 386 (vr 158)) :: (de P c185 392 (vr 163)) :: (de P c186 403 (vr 170)) :: (de P c187 409 (vr 175)) :: (de P c188 422 (vr 182)) :: (de P c189 433 (vr 189)) :: (de P c190 446 (vr 196)) :: (de P c191 456 (vr 203)) :: (de P c192 466 (vr 210)) :: (de P c193 479 (vr 217)) :: (de P c194 487 (vr 224)) :: (de P c195 494 (vr 231)) :: (de P c196 500 (vr 236)) :: (de P c197 510 (vr 243)) :: (de P c198 516 (vr 248)) :: (de P c199 526 (vr 255)) :: (de P c200 538 (vr 262)) :: [])⟩ 42),⟨[]⟩⟩
abbrev o5 (P:Params):Obj:=⟨.none,none,(.fields ⟨(((vi 2 0)) :: ((vi 0 0)) :: ((vr 20)) :: ((vi 4 0)) :: ((vi 0 0)) :: ((vr 33)) :: ((vi 6 0)) :: ((vi 0 0)) :: ((vr 45)) :: ((vi 8 0)) :: ((vi 0 0)) :: ((vr 57)) :: ((vi 10 0)) :: ((vi 0 0)) :: ((vr 69)) :: ((vi 12 0)) :: ((vi 0 0)) :: ((vr 81)) :: ((vi 14 0)) :: ((vi 0 0)) :: ((vr 93)) :: ((vi 18 0)) :: ((vi 0 0)) :: ((vr 105)) :: ((vi 20 0)) :: ((vi 0 0)) :: ((vr 112)) :: ((vi 22 0)) :: ((vi 0 0)) :: ((vr 117)) :: ((vi 24 0)) :: ((vi 0 0)) :: ((vr 124)) :: ((vi 26 0)) :: ((vi 0 0)) :: ((vr 131)) :: ((vi 43 0)) :: ((vi 0 0)) :: ((vr 138)) :: ((vi 46 0)) :: ((vi 0 0)) :: ((vr 145)) :: ((vi 59 0)) :: ((vi 0 0)) :: ((vr 150)) :: ((vi 68 0)) :: ((vi 0 0)) :: ((vr 157)) :: ((vi 81 0)) :: ((vi 0 0)) :: ((vr 162)) :: ((vi 92 0)) :: ((vi 0 0)) :: ((vr 169)) :: ((vi 99 0)) :: ((vi 0 0)) :: ((vr 174)) :: ((vi 109 0)) :: ((vi 0 0)) :: ((vr 181)) :: ((vi 118 0)) :: ((vi 0 0)) :: ((vr 188)) :: ((vi 125 0)) :: ((vi 0 0)) :: ((vr 195)) :: ((vi 136 0)) :: ((vi 0 0)) :: ((vr 202)) :: ((vi 140 0)) :: ((vi 0 0)) :: ((vr 209)) :: ((vi 143 0)) :: ((vi 0 0)) :: ((vr 216)) :: ((vi 153 0)) :: ((vi 0 0)) :: ((vr 223)) :: ((vi 158 0)) :: ((vi 0 0)) :: ((vr 230)) :: ((vi 160 0)) :: ((vi 0 0)) :: ((vr 235)) :: ((vi 162 0)) :: ((vi 0 0)) :: ((vr 242)) :: ((vi 167 0)) :: ((vi 0 0)) :: ((vr 247)) :: ((vi 176 0)) :: ((vi 0 0)) :: ((vr 254)) :: ((vi 184 0)) :: ((vi 0 0)) :: ((vr 261)) :: [])⟩),⟨[]⟩⟩
abbrev o6 (P:Params):Obj:=⟨(.type l71),none,(.seq ⟨[(.type l97)]⟩ 0),⟨[]⟩⟩
abbrev o7 (P:Params):Obj:=⟨(.type l154),none,(.fields ⟨[(.builtin l155),(.type l72)]⟩),⟨[]⟩⟩
abbrev o8 (P:Params):Obj:=⟨(.type l0),none,(.dict ⟨[de P c201 196 (vs c202 187),de P c203 198 (vs c168 197),de P c204 200 (vi 2 199),de P c205 201 (vr 22)]⟩ 4),⟨[]⟩⟩
abbrev o9 (P:Params):Obj:=⟨(.type l152),none,(.fields ⟨[(vs c168 191),(vs c168 192),(vs c164 193),(vi 2 0),(vi 0 0),(vi 0 0),(vi 0 0),(vi 0 0),(vr 18),(.bool false),(vi 181 0),(vr 19),.none,.none,.none,.none,(vi 194 0),(vi 2 0),(vs c164 195)]⟩),⟨[]⟩⟩
abbrev o10 (P:Params):Obj:=⟨(.type l153),none,.plain,⟨[some (vr 20),some (vr 3),some (vr 17),none,some (vs c202 187),none,some (vr 0)]⟩⟩
abbrev o11 (P:Params):Obj:=⟨(.type l0),none,(.dict ⟨[de P c201 196 (vs c202 187),de P c204 200 (vi 2 199),de P c205 201 (vr 22),de P c206 203 (vr 25),de P c2 204 .none]⟩ 3),⟨[]⟩⟩
abbrev o12 (P:Params):Obj:=⟨(.type l72),none,(.cls ⟨c168,[(.type l97)],[(vr 24),(.type l97),(.type l76),(.type l74),(.type l63)],23,c168,true,[],[(vr 37),(vr 49),(vr 61),(vr 73),(vr 85),(vr 97)],false,none,false⟩),⟨[some (vr 15),none,some (vs c168 189),some (vs c168 197),some (.builtin l156),some (.bool true)]⟩⟩
abbrev o13 (P:Params):Obj:=⟨(.type l157),none,(.fields ⟨[(vs c206 202),(vr 24),(.builtin l158),.none]⟩),⟨[]⟩⟩
abbrev o14 (P:Params):Obj:=⟨(.type l70),none,(.fields ⟨[(vr 24),(vr 24),(vr 24)]⟩),⟨[]⟩⟩
abbrev o15 (P:Params):Obj:=⟨(.type l154),none,(.fields ⟨[(.builtin l159),(vr 24)]⟩),⟨[]⟩⟩
abbrev o16 (P:Params):Obj:=⟨(.type l71),none,(.seq ⟨[(vr 24)]⟩ 0),⟨[]⟩⟩
abbrev o17 (P:Params):Obj:=⟨(.type l0),none,(.dict ⟨[de P c201 214 (vs c202 187),de P c203 216 (vs c169 215),de P c204 218 (vi 4 217),de P c205 219 (vr 35)]⟩ 4),⟨[]⟩⟩
abbrev o18 (P:Params):Obj:=⟨(.type l152),none,(.fields ⟨[(vs c169 209),(vs c169 210),(vs c164 211),(vi 4 0),(vi 0 0),(vi 0 0),(vi 0 0),(vi 0 0),(vr 31),(.bool false),(vi 181 0),(vr 32),.none,.none,.none,.none,(vi 212 0),(vi 4 0),(vs c164 213)]⟩),⟨[]⟩⟩
abbrev o19 (P:Params):Obj:=⟨(.type l153),none,.plain,⟨[some (vr 33),some (vr 3),some (vr 30),none,some (vs c202 187),none,some (vr 0)]⟩⟩
abbrev o20 (P:Params):Obj:=⟨(.type l0),none,(.dict ⟨[de P c201 214 (vs c202 187),de P c204 218 (vi 4 217),de P c205 219 (vr 35),de P c2 220 .none]⟩ 2),⟨[]⟩⟩
abbrev o21 (P:Params):Obj:=⟨(.type l72),none,(.cls ⟨c169,[(vr 24)],[(vr 37),(vr 24),(.type l97),(.type l76),(.type l74),(.type l63)],36,c169,true,[],[],false,none,false⟩),⟨[some (vr 28),none,some (vs c169 207),some (vs c169 215),some (.builtin l156),some (.bool true)]⟩⟩
abbrev o22 (P:Params):Obj:=⟨(.type l70),none,(.fields ⟨[(vr 37),(vr 37),(vr 37)]⟩),⟨[]⟩⟩
abbrev o23 (P:Params):Obj:=⟨(.type l154),none,(.fields ⟨[(.builtin l159),(vr 37)]⟩),⟨[]⟩⟩
abbrev o24 (P:Params):Obj:=⟨(.type l0),none,(.dict ⟨[de P c201 230 (vs c202 187),de P c203 232 (vs c170 231),de P c204 234 (vi 6 233),de P c205 235 (vr 47)]⟩ 4),⟨[]⟩⟩
abbrev o25 (P:Params):Obj:=⟨(.type l152),none,(.fields ⟨[(vs c170 225),(vs c170 226),(vs c164 227),(vi 6 0),(vi 0 0),(vi 0 0),(vi 0 0),(vi 0 0),(vr 43),(.bool false),(vi 181 0),(vr 44),.none,.none,.none,.none,(vi 228 0),(vi 6 0),(vs c164 229)]⟩),⟨[]⟩⟩
abbrev o26 (P:Params):Obj:=⟨(.type l153),none,.plain,⟨[some (vr 45),some (vr 3),some (vr 42),none,some (vs c202 187),none,some (vr 0)]⟩⟩
abbrev o27 (P:Params):Obj:=⟨(.type l0),none,(.dict ⟨[de P c201 230 (vs c202 187),de P c204 234 (vi 6 233),de P c205 235 (vr 47),de P c2 236 .none]⟩ 2),⟨[]⟩⟩
abbrev o28 (P:Params):Obj:=⟨(.type l72),none,(.cls ⟨c170,[(vr 24)],[(vr 49),(vr 24),(.type l97),(.type l76),(.type l74),(.type l63)],48,c170,true,[],[],false,none,false⟩),⟨[some (vr 40),none,some (vs c170 223),some (vs c170 231),some (.builtin l156),some (.bool true)]⟩⟩
abbrev o29 (P:Params):Obj:=⟨(.type l70),none,(.fields ⟨[(vr 49),(vr 49),(vr 49)]⟩),⟨[]⟩⟩
abbrev o30 (P:Params):Obj:=⟨(.type l154),none,(.fields ⟨[(.builtin l159),(vr 49)]⟩),⟨[]⟩⟩
abbrev o31 (P:Params):Obj:=⟨(.type l0),none,(.dict ⟨[de P c201 246 (vs c202 187),de P c203 248 (vs c171 247),de P c204 250 (vi 8 249),de P c205 251 (vr 59)]⟩ 4),⟨[]⟩⟩
abbrev o32 (P:Params):Obj:=⟨(.type l152),none,(.fields ⟨[(vs c171 241),(vs c171 242),(vs c164 243),(vi 8 0),(vi 0 0),(vi 0 0),(vi 0 0),(vi 0 0),(vr 55),(.bool false),(vi 181 0),(vr 56),.none,.none,.none,.none,(vi 244 0),(vi 8 0),(vs c164 245)]⟩),⟨[]⟩⟩
abbrev o33 (P:Params):Obj:=⟨(.type l153),none,.plain,⟨[some (vr 57),some (vr 3),some (vr 54),none,some (vs c202 187),none,some (vr 0)]⟩⟩
abbrev o34 (P:Params):Obj:=⟨(.type l0),none,(.dict ⟨[de P c201 246 (vs c202 187),de P c204 250 (vi 8 249),de P c205 251 (vr 59),de P c2 252 .none]⟩ 2),⟨[]⟩⟩
abbrev o35 (P:Params):Obj:=⟨(.type l72),none,(.cls ⟨c171,[(vr 24)],[(vr 61),(vr 24),(.type l97),(.type l76),(.type l74),(.type l63)],60,c171,true,[],[],false,none,false⟩),⟨[some (vr 52),none,some (vs c171 239),some (vs c171 247),some (.builtin l156),some (.bool true)]⟩⟩
abbrev o36 (P:Params):Obj:=⟨(.type l70),none,(.fields ⟨[(vr 61),(vr 61),(vr 61)]⟩),⟨[]⟩⟩
abbrev o37 (P:Params):Obj:=⟨(.type l154),none,(.fields ⟨[(.builtin l159),(vr 61)]⟩),⟨[]⟩⟩
abbrev o38 (P:Params):Obj:=⟨(.type l0),none,(.dict ⟨[de P c201 262 (vs c202 187),de P c203 264 (vs c172 263),de P c204 266 (vi 10 265),de P c205 267 (vr 71)]⟩ 4),⟨[]⟩⟩
abbrev o39 (P:Params):Obj:=⟨(.type l152),none,(.fields ⟨[(vs c172 257),(vs c172 258),(vs c164 259),(vi 10 0),(vi 0 0),(vi 0 0),(vi 0 0),(vi 0 0),(vr 67),(.bool false),(vi 181 0),(vr 68),.none,.none,.none,.none,(vi 260 0),(vi 10 0),(vs c164 261)]⟩),⟨[]⟩⟩
abbrev o40 (P:Params):Obj:=⟨(.type l153),none,.plain,⟨[some (vr 69),some (vr 3),some (vr 66),none,some (vs c202 187),none,some (vr 0)]⟩⟩
abbrev o41 (P:Params):Obj:=⟨(.type l0),none,(.dict ⟨[de P c201 262 (vs c202 187),de P c204 266 (vi 10 265),de P c205 267 (vr 71),de P c2 268 .none]⟩ 2),⟨[]⟩⟩
abbrev o42 (P:Params):Obj:=⟨(.type l72),none,(.cls ⟨c172,[(vr 24)],[(vr 73),(vr 24),(.type l97),(.type l76),(.type l74),(.type l63)],72,c172,true,[],[],false,none,false⟩),⟨[some (vr 64),none,some (vs c172 255),some (vs c172 263),some (.builtin l156),some (.bool true)]⟩⟩
abbrev o43 (P:Params):Obj:=⟨(.type l70),none,(.fields ⟨[(vr 73),(vr 73),(vr 73)]⟩),⟨[]⟩⟩
abbrev o44 (P:Params):Obj:=⟨(.type l154),none,(.fields ⟨[(.builtin l159),(vr 73)]⟩),⟨[]⟩⟩
abbrev o45 (P:Params):Obj:=⟨(.type l0),none,(.dict ⟨[de P c201 278 (vs c202 187),de P c203 280 (vs c173 279),de P c204 282 (vi 12 281),de P c205 283 (vr 83)]⟩ 4),⟨[]⟩⟩
abbrev o46 (P:Params):Obj:=⟨(.type l152),none,(.fields ⟨[(vs c173 273),(vs c173 274),(vs c164 275),(vi 12 0),(vi 0 0),(vi 0 0),(vi 0 0),(vi 0 0),(vr 79),(.bool false),(vi 181 0),(vr 80),.none,.none,.none,.none,(vi 276 0),(vi 12 0),(vs c164 277)]⟩),⟨[]⟩⟩
abbrev o47 (P:Params):Obj:=⟨(.type l153),none,.plain,⟨[some (vr 81),some (vr 3),some (vr 78),none,some (vs c202 187),none,some (vr 0)]⟩⟩
abbrev o48 (P:Params):Obj:=⟨(.type l0),none,(.dict ⟨[de P c201 278 (vs c202 187),de P c204 282 (vi 12 281),de P c205 283 (vr 83),de P c2 284 .none]⟩ 2),⟨[]⟩⟩
abbrev o49 (P:Params):Obj:=⟨(.type l72),none,(.cls ⟨c173,[(vr 24)],[(vr 85),(vr 24),(.type l97),(.type l76),(.type l74),(.type l63)],84,c173,true,[],[],false,none,false⟩),⟨[some (vr 76),none,some (vs c173 271),some (vs c173 279),some (.builtin l156),some (.bool true)]⟩⟩
abbrev o50 (P:Params):Obj:=⟨(.type l70),none,(.fields ⟨[(vr 85),(vr 85),(vr 85)]⟩),⟨[]⟩⟩
abbrev o51 (P:Params):Obj:=⟨(.type l154),none,(.fields ⟨[(.builtin l159),(vr 85)]⟩),⟨[]⟩⟩
abbrev o52 (P:Params):Obj:=⟨(.type l0),none,(.dict ⟨[de P c201 294 (vs c202 187),de P c203 296 (vs c174 295),de P c204 298 (vi 14 297),de P c205 299 (vr 95)]⟩ 4),⟨[]⟩⟩
abbrev o53 (P:Params):Obj:=⟨(.type l152),none,(.fields ⟨[(vs c174 289),(vs c174 290),(vs c164 291),(vi 14 0),(vi 0 0),(vi 0 0),(vi 0 0),(vi 0 0),(vr 91),(.bool false),(vi 181 0),(vr 92),.none,.none,.none,.none,(vi 292 0),(vi 14 0),(vs c164 293)]⟩),⟨[]⟩⟩
abbrev o54 (P:Params):Obj:=⟨(.type l153),none,.plain,⟨[some (vr 93),some (vr 3),some (vr 90),none,some (vs c202 187),none,some (vr 0)]⟩⟩
abbrev o55 (P:Params):Obj:=⟨(.type l0),none,(.dict ⟨[de P c201 294 (vs c202 187),de P c204 298 (vi 14 297),de P c205 299 (vr 95),de P c2 300 .none]⟩ 2),⟨[]⟩⟩
abbrev o56 (P:Params):Obj:=⟨(.type l72),none,(.cls ⟨c174,[(vr 24)],[(vr 97),(vr 24),(.type l97),(.type l76),(.type l74),(.type l63)],96,c174,true,[],[],false,none,false⟩),⟨[some (vr 88),none,some (vs c174 287),some (vs c174 295),some (.builtin l156),some (.bool true)]⟩⟩
abbrev o57 (P:Params):Obj:=⟨(.type l70),none,(.fields ⟨[(vr 97),(vr 97),(vr 97)]⟩),⟨[]⟩⟩
abbrev o58 (P:Params):Obj:=⟨(.type l154),none,(.fields ⟨[(.builtin l159),(vr 97)]⟩),⟨[]⟩⟩
abbrev o59 (P:Params):Obj:=⟨(.type l71),none,(.seq ⟨[(vs c207 310)]⟩ 0),⟨[]⟩⟩
abbrev o60 (P:Params):Obj:=⟨.none,none,(.func ⟨c176,c176,(fA (tp 10)),.stmts (fB (tp 10)),(fS (tp 10)),0,[],.none,.none,.none,.none,none,.none,.none,0⟩),⟨[]⟩⟩
abbrev o61 (P:Params):Obj:=⟨(.type l152),none,(.fields ⟨[(vs c176 307),(vs c176 308),(vs c164 309),(vi 18 0),(vi 1 0),(vi 0 0),(vi 0 0),(vi 3 0),(vr 100),(.bool true),(vi 181 0),(vr 101),.none,(vr 102),(vr 103),(vr 104),(vi 311 0),(vi 18 0),(vs c164 312)]⟩),⟨[]⟩⟩
abbrev o62 (P:Params):Obj:=⟨(.type l160),none,(.func ⟨c176,c176,(fA (tp 10)),.stmts (fB (tp 10)),(fS (tp 10)),3,[],.none,.none,.none,(vs c208 303),none,(vr 105),.none,0⟩),⟨[]⟩⟩
abbrev o63 (P:Params):Obj:=⟨(.type l71),none,(.seq ⟨[(vs c207 317)]⟩ 0),⟨[]⟩⟩
abbrev o64 (P:Params):Obj:=⟨.none,none,(.func ⟨c177,c177,(fA (tp 11)),.stmts (fB (tp 11)),(fS (tp 11)),0,[],.none,.none,.none,.none,none,.none,.none,0⟩),⟨[]⟩⟩
abbrev o65 (P:Params):Obj:=⟨(.type l152),none,(.fields ⟨[(vs c177 314),(vs c177 315),(vs c164 316),(vi 20 0),(vi 1 0),(vi 0 0),(vi 0 0),(vi 3 0),(vr 107),(.bool true),(vi 181 0),(vr 108),.none,(vr 109),(vr 110),(vr 111),(vi 318 0),(vi 20 0),(vs c164 319)]⟩),⟨[]⟩⟩
abbrev o66 (P:Params):Obj:=⟨(.type l160),none,(.func ⟨c177,c177,(fA (tp 11)),.stmts (fB (tp 11)),(fS (tp 11)),3,[],.none,.none,.none,(vs c208 303),none,(vr 112),.none,0⟩),⟨[]⟩⟩
abbrev o67 (P:Params):Obj:=⟨.none,none,(.func ⟨c178,c178,(fA (tp 12)),.stmts (fB (tp 12)),(fS (tp 12)),0,[],.none,.none,.none,.none,none,.none,.none,0⟩),⟨[]⟩⟩
abbrev o68 (P:Params):Obj:=⟨(.type l152),none,(.fields ⟨[(vs c178 321),(vs c178 322),(vs c164 323),(vi 22 0),(vi 1 0),(vi 0 0),(vi 0 0),(vi 3 0),(vr 114),(.bool true),(vi 181 0),(vr 115),.none,.none,.none,(vr 116),(vi 324 0),(vi 22 0),(vs c164 325)]⟩),⟨[]⟩⟩
abbrev o69 (P:Params):Obj:=⟨(.type l160),none,(.func ⟨c178,c178,(fA (tp 12)),.stmts (fB (tp 12)),(fS (tp 12)),3,[],.none,.none,.none,(vs c208 303),none,(vr 117),.none,0⟩),⟨[]⟩⟩
abbrev o70 (P:Params):Obj:=⟨(.type l71),none,(.seq ⟨[(vs c209 330),(vs c210 331)]⟩ 0),⟨[]⟩⟩
abbrev o71 (P:Params):Obj:=⟨.none,none,(.func ⟨c179,c179,(fA (tp 13)),.stmts (fB (tp 13)),(fS (tp 13)),0,[],.none,.none,.none,.none,none,.none,.none,0⟩),⟨[]⟩⟩
abbrev o72 (P:Params):Obj:=⟨(.type l152),none,(.fields ⟨[(vs c179 327),(vs c179 328),(vs c164 329),(vi 24 0),(vi 2 0),(vi 0 0),(vi 0 0),(vi 3 0),(vr 119),(.bool true),(vi 181 0),(vr 120),.none,(vr 121),(vr 122),(vr 123),(vi 332 0),(vi 24 0),(vs c164 333)]⟩),⟨[]⟩⟩
abbrev o73 (P:Params):Obj:=⟨(.type l160),none,(.func ⟨c179,c179,(fA (tp 13)),.stmts (fB (tp 13)),(fS (tp 13)),3,[],.none,.none,.none,(vs c208 303),none,(vr 124),.none,0⟩),⟨[]⟩⟩
abbrev o74 (P:Params):Obj:=⟨(.type l71),none,(.seq ⟨[(vs c211 338),(vs c212 339),(vs c209 340),(vs c213 341),(vs c214 342),(vs c215 343),(vs c216 344),(vs c217 345),(vs c218 346),(vs c219 347)]⟩ 0),⟨[]⟩⟩
abbrev o75 (P:Params):Obj:=⟨.none,none,(.func ⟨c180,c180,(fA (tp 14)),.stmts (fB (tp 14)),(fS (tp 14)),0,[],.none,.none,.none,.none,none,.none,.none,0⟩),⟨[]⟩⟩
abbrev o76 (P:Params):Obj:=⟨(.type l152),none,(.fields ⟨[(vs c180 335),(vs c180 336),(vs c164 337),(vi 26 0),(vi 2 0),(vi 0 0),(vi 0 0),(vi 3 0),(vr 126),(.bool true),(vi 181 0),(vr 127),.none,(vr 128),(vr 129),(vr 130),(vi 348 0),(vi 26 0),(vs c164 349)]⟩),⟨[]⟩⟩
abbrev o77 (P:Params):Obj:=⟨(.type l160),none,(.func ⟨c180,c180,(fA (tp 14)),.stmts (fB (tp 14)),(fS (tp 14)),3,[],.none,.none,.none,(vs c208 303),none,(vr 131),.none,0⟩),⟨[]⟩⟩
abbrev o78 (P:Params):Obj:=⟨(.type l71),none,(.seq ⟨[(vs c210 354),(vs c220 355)]⟩ 0),⟨[]⟩⟩
abbrev o79 (P:Params):Obj:=⟨.none,none,(.func ⟨c181,c181,(fA (tp 15)),.stmts (fB (tp 15)),(fS (tp 15)),0,[],.none,.none,.none,.none,none,.none,.none,0⟩),⟨[]⟩⟩
abbrev o80 (P:Params):Obj:=⟨(.type l152),none,(.fields ⟨[(vs c181 351),(vs c181 352),(vs c164 353),(vi 43 0),(vi 2 0),(vi 0 0),(vi 0 0),(vi 3 0),(vr 133),(.bool true),(vi 181 0),(vr 134),.none,(vr 135),(vr 136),(vr 137),(vi 356 0),(vi 43 0),(vs c164 357)]⟩),⟨[]⟩⟩
abbrev o81 (P:Params):Obj:=⟨(.type l160),none,(.func ⟨c181,c181,(fA (tp 15)),.stmts (fB (tp 15)),(fS (tp 15)),3,[],.none,.none,.none,(vs c208 303),none,(vr 138),.none,0⟩),⟨[]⟩⟩
abbrev o82 (P:Params):Obj:=⟨(.type l71),none,(.seq ⟨[(vs c221 364),(vs c222 365),(vs c223 366),(vs c224 367)]⟩ 0),⟨[]⟩⟩
abbrev o83 (P:Params):Obj:=⟨.none,none,(.func ⟨c182,c182,(fA (tp 17)),.stmts (fB (tp 17)),(fS (tp 17)),0,[],.none,.none,.none,.none,none,.none,.none,0⟩),⟨[]⟩⟩
abbrev o84 (P:Params):Obj:=⟨(.type l152),none,(.fields ⟨[(vs c182 361),(vs c182 362),(vs c164 363),(vi 46 0),(vi 1 0),(vi 0 0),(vi 0 0),(vi 3 0),(vr 140),(.bool true),(vi 181 0),(vr 141),.none,(vr 142),(vr 143),(vr 144),(vi 368 0),(vi 46 0),(vs c164 369)]⟩),⟨[]⟩⟩
abbrev o85 (P:Params):Obj:=⟨(.type l160),none,(.func ⟨c182,c182,(fA (tp 17)),.stmts (fB (tp 17)),(fS (tp 17)),3,[],.none,.none,.none,(vs c225 359),none,(vr 145),.none,0⟩),⟨[]⟩⟩
abbrev o86 (P:Params):Obj:=⟨.none,none,(.func ⟨c183,c183,(fA (tp 18)),.stmts (fB (tp 18)),(fS (tp 18)),0,[],.none,.none,.none,.none,none,.none,.none,0⟩),⟨[]⟩⟩
abbrev o87 (P:Params):Obj:=⟨(.type l152),none,(.fields ⟨[(vs c183 371),(vs c183 372),(vs c164 373),(vi 59 0),(vi 1 0),(vi 0 0),(vi 0 0),(vi 3 0),(vr 147),(.bool true),(vi 181 0),(vr 148),.none,.none,.none,(vr 149),(vi 374 0),(vi 59 0),(vs c164 375)]⟩),⟨[]⟩⟩
abbrev o88 (P:Params):Obj:=⟨(.type l160),none,(.func ⟨c183,c183,(fA (tp 18)),.stmts (fB (tp 18)),(fS (tp 18)),3,[],.none,.none,.none,(vs c225 359),none,(vr 150),.none,0⟩),⟨[]⟩⟩
abbrev o89 (P:Params):Obj:=⟨(.type l71),none,(.seq ⟨[(vs c226 380),(vs c227 381),(vs c214 382),(vs c228 383)]⟩ 0),⟨[]⟩⟩
abbrev o90 (P:Params):Obj:=⟨.none,none,(.func ⟨c184,c184,(fA (tp 19)),.stmts (fB (tp 19)),(fS (tp 19)),0,[],.none,.none,.none,.none,none,.none,.none,0⟩),⟨[]⟩⟩
abbrev o91 (P:Params):Obj:=⟨(.type l152),none,(.fields ⟨[(vs c184 377),(vs c184 378),(vs c164 379),(vi 68 0),(vi 1 0),(vi 0 0),(vi 0 0),(vi 3 0),(vr 152),(.bool true),(vi 181 0),(vr 153),.none,(vr 154),(vr 155),(vr 156),(vi 384 0),(vi 68 0),(vs c164 385)]⟩),⟨[]⟩⟩
abbrev o92 (P:Params):Obj:=⟨(.type l160),none,(.func ⟨c184,c184,(fA (tp 19)),.stmts (fB (tp 19)),(fS (tp 19)),3,[],.none,.none,.none,(vs c225 359),none,(vr 157),.none,0⟩),⟨[]⟩⟩
abbrev o93 (P:Params):Obj:=⟨.none,none,(.func ⟨c185,c185,(fA (tp 20)),.stmts (fB (tp 20)),(fS (tp 20)),0,[],.none,.none,.none,.none,none,.none,.none,0⟩),⟨[]⟩⟩
abbrev o94 (P:Params):Obj:=⟨(.type l152),none,(.fields ⟨[(vs c185 387),(vs c185 388),(vs c164 389),(vi 81 0),(vi 2 0),(vi 0 0),(vi 0 0),(vi 3 0),(vr 159),(.bool true),(vi 181 0),(vr 160),.none,.none,.none,(vr 161),(vi 390 0),(vi 81 0),(vs c164 391)]⟩),⟨[]⟩⟩
abbrev o95 (P:Params):Obj:=⟨(.type l160),none,(.func ⟨c185,c185,(fA (tp 20)),.stmts (fB (tp 20)),(fS (tp 20)),3,[],.none,.none,.none,(vs c225 359),none,(vr 162),.none,0⟩),⟨[]⟩⟩
abbrev o96 (P:Params):Obj:=⟨(.type l71),none,(.seq ⟨[(vs c229 396),(vs c228 397),(vs c224 398),(vs c230 399),(vs c231 400)]⟩ 0),⟨[]⟩⟩
abbrev o97 (P:Params):Obj:=⟨.none,none,(.func ⟨c186,c186,(fA (tp 21)),.stmts (fB (tp 21)),(fS (tp 21)),0,[],.none,.none,.none,.none,none,.none,.none,0⟩),⟨[]⟩⟩
abbrev o98 (P:Params):Obj:=⟨(.type l152),none,(.fields ⟨[(vs c186 393),(vs c186 394),(vs c164 395),(vi 92 0),(vi 2 0),(vi 0 0),(vi 0 0),(vi 3 0),(vr 164),(.bool true),(vi 181 0),(vr 165),.none,(vr 166),(vr 167),(vr 168),(vi 401 0),(vi 92 0),(vs c164 402)]⟩),⟨[]⟩⟩
abbrev o99 (P:Params):Obj:=⟨(.type l160),none,(.func ⟨c186,c186,(fA (tp 21)),.stmts (fB (tp 21)),(fS (tp 21)),3,[],.none,.none,.none,(vs c225 359),none,(vr 169),.none,0⟩),⟨[]⟩⟩
abbrev o100 (P:Params):Obj:=⟨.none,none,(.func ⟨c187,c187,(fA (tp 22)),.stmts (fB (tp 22)),(fS (tp 22)),0,[],.none,.none,.none,.none,none,.none,.none,0⟩),⟨[]⟩⟩
abbrev o101 (P:Params):Obj:=⟨(.type l152),none,(.fields ⟨[(vs c187 404),(vs c187 405),(vs c164 406),(vi 99 0),(vi 2 0),(vi 0 0),(vi 0 0),(vi 3 0),(vr 171),(.bool true),(vi 181 0),(vr 172),.none,.none,.none,(vr 173),(vi 407 0),(vi 99 0),(vs c164 408)]⟩),⟨[]⟩⟩
abbrev o102 (P:Params):Obj:=⟨(.type l160),none,(.func ⟨c187,c187,(fA (tp 22)),.stmts (fB (tp 22)),(fS (tp 22)),3,[],.none,.none,.none,(vs c225 359),none,(vr 174),.none,0⟩),⟨[]⟩⟩
abbrev o103 (P:Params):Obj:=⟨(.type l71),none,(.seq ⟨[(vs c232 413),(vs c233 414),(vs c228 415),(vs c234 416),(vs c235 417),(vs c224 418),(vs c236 419)]⟩ 0),⟨[]⟩⟩
abbrev o104 (P:Params):Obj:=⟨.none,none,(.func ⟨c188,c188,(fA (tp 23)),.stmts (fB (tp 23)),(fS (tp 23)),0,[],.none,.none,.none,.none,none,.none,.none,0⟩),⟨[]⟩⟩
abbrev o105 (P:Params):Obj:=⟨(.type l152),none,(.fields ⟨[(vs c188 410),(vs c188 411),(vs c164 412),(vi 109 0),(vi 3 0),(vi 0 0),(vi 0 0),(vi 3 0),(vr 176),(.bool true),(vi 181 0),(vr 177),.none,(vr 178),(vr 179),(vr 180),(vi 420 0),(vi 109 0),(vs c164 421)]⟩),⟨[]⟩⟩
abbrev o106 (P:Params):Obj:=⟨(.type l160),none,(.func ⟨c188,c188,(fA (tp 23)),.stmts (fB (tp 23)),(fS (tp 23)),3,[],.none,.none,.none,(vs c225 359),none,(vr 181),.none,0⟩),⟨[]⟩⟩
abbrev o107 (P:Params):Obj:=⟨(.type l71),none,(.seq ⟨[(vs c232 426),(vs c233 427),(vs c228 428),(vs c234 429),(vs c236 430)]⟩ 0),⟨[]⟩⟩
abbrev o108 (P:Params):Obj:=⟨.none,none,(.func ⟨c189,c189,(fA (tp 24)),.stmts (fB (tp 24)),(fS (tp 24)),0,[],.none,.none,.none,.none,none,.none,.none,0⟩),⟨[]⟩⟩
abbrev o109 (P:Params):Obj:=⟨(.type l152),none,(.fields ⟨[(vs c189 423),(vs c189 424),(vs c164 425),(vi 118 0),(vi 3 0),(vi 0 0),(vi 0 0),(vi 3 0),(vr 183),(.bool true),(vi 181 0),(vr 184),.none,(vr 185),(vr 186),(vr 187),(vi 431 0),(vi 118 0),(vs c164 432)]⟩),⟨[]⟩⟩
abbrev o110 (P:Params):Obj:=⟨(.type l160),none,(.func ⟨c189,c189,(fA (tp 24)),.stmts (fB (tp 24)),(fS (tp 24)),3,[],.none,.none,.none,(vs c225 359),none,(vr 188),.none,0⟩),⟨[]⟩⟩
abbrev o111 (P:Params):Obj:=⟨(.type l71),none,(.seq ⟨[(vs c234 437),(vs c237 438),(vs c233 439),(vs c228 440),(vs c238 441),(vs c239 442),(vs c240 443)]⟩ 0),⟨[]⟩⟩
abbrev o112 (P:Params):Obj:=⟨.none,none,(.func ⟨c190,c190,(fA (tp 25)),.stmts (fB (tp 25)),(fS (tp 25)),0,[],.none,.none,.none,.none,none,.none,.none,0⟩),⟨[]⟩⟩
abbrev o113 (P:Params):Obj:=⟨(.type l152),none,(.fields ⟨[(vs c190 434),(vs c190 435),(vs c164 436),(vi 125 0),(vi 4 0),(vi 0 0),(vi 0 0),(vi 3 0),(vr 190),(.bool true),(vi 181 0),(vr 191),.none,(vr 192),(vr 193),(vr 194),(vi 444 0),(vi 125 0),(vs c164 445)]⟩),⟨[]⟩⟩
abbrev o114 (P:Params):Obj:=⟨(.type l160),none,(.func ⟨c190,c190,(fA (tp 25)),.stmts (fB (tp 25)),(fS (tp 25)),3,[],.none,.none,.none,(vs c225 359),none,(vr 195),.none,0⟩),⟨[]⟩⟩
abbrev o115 (P:Params):Obj:=⟨(.type l71),none,(.seq ⟨[(vs c241 452),(vs c242 453)]⟩ 0),⟨[]⟩⟩
abbrev o116 (P:Params):Obj:=⟨.none,none,(.func ⟨c191,c191,(fA (tp 27)),.stmts (fB (tp 27)),(fS (tp 27)),0,[],.none,.none,.none,.none,none,.none,.none,0⟩),⟨[]⟩⟩
abbrev o117 (P:Params):Obj:=⟨(.type l152),none,(.fields ⟨[(vs c191 449),(vs c191 450),(vs c164 451),(vi 136 0),(vi 2 0),(vi 0 0),(vi 0 0),(vi 3 0),(vr 197),(.bool true),(vi 181 0),(vr 198),.none,(vr 199),(vr 200),(vr 201),(vi 454 0),(vi 136 0),(vs c164 455)]⟩),⟨[]⟩⟩
abbrev o118 (P:Params):Obj:=⟨(.type l160),none,(.func ⟨c191,c191,(fA (tp 27)),.stmts (fB (tp 27)),(fS (tp 27)),3,[],.none,.none,.none,(vs c167 447),none,(vr 202),.none,0⟩),⟨[]⟩⟩
abbrev o119 (P:Params):Obj:=⟨(.type l71),none,(.seq ⟨[(vs c243 460),(vs c242 461),(vs c244 462),(vs c245 463)]⟩ 0),⟨[]⟩⟩
abbrev o120 (P:Params):Obj:=⟨.none,none,(.func ⟨c192,c192,(fA (tp 28)),.stmts (fB (tp 28)),(fS (tp 28)),0,[],.none,.none,.none,.none,none,.none,.none,0⟩),⟨[]⟩⟩
abbrev o121 (P:Params):Obj:=⟨(.type l152),none,(.fields ⟨[(vs c192 457),(vs c192 458),(vs c164 459),(vi 140 0),(vi 3 0),(vi 0 0),(vi 0 0),(vi 3 0),(vr 204),(.bool true),(vi 181 0),(vr 205),.none,(vr 206),(vr 207),(vr 208),(vi 464 0),(vi 140 0),(vs c164 465)]⟩),⟨[]⟩⟩
abbrev o122 (P:Params):Obj:=⟨(.type l160),none,(.func ⟨c192,c192,(fA (tp 28)),.stmts (fB (tp 28)),(fS (tp 28)),3,[],.none,.none,.none,(vs c167 447),none,(vr 209),.none,0⟩),⟨[]⟩⟩
abbrev o123 (P:Params):Obj:=⟨(.type l71),none,(.seq ⟨[(vs c241 470),(vs c246 471),(vs c247 472),(vs c248 473),(vs c249 474),(vs c242 475),(vs c250 476)]⟩ 0),⟨[]⟩⟩
abbrev o124 (P:Params):Obj:=⟨.none,none,(.func ⟨c193,c193,(fA (tp 29)),.stmts (fB (tp 29)),(fS (tp 29)),0,[],.none,.none,.none,.none,none,.none,.none,0⟩),⟨[]⟩⟩
abbrev o125 (P:Params):Obj:=⟨(.type l152),none,(.fields ⟨[(vs c193 467),(vs c193 468),(vs c164 469),(vi 143 0),(vi 1 0),(vi 0 0),(vi 0 0),(vi 3 0),(vr 211),(.bool true),(vi 181 0),(vr 212),.none,(vr 213),(vr 214),(vr 215),(vi 477 0),(vi 143 0),(vs c164 478)]⟩),⟨[]⟩⟩
abbrev o126 (P:Params):Obj:=⟨(.type l160),none,(.func ⟨c193,c193,(fA (tp 29)),.stmts (fB (tp 29)),(fS (tp 29)),3,[],.none,.none,.none,(vs c167 447),none,(vr 216),.none,0⟩),⟨[]⟩⟩
abbrev o127 (P:Params):Obj:=⟨(.type l71),none,(.seq ⟨[(vs c251 483),(vs c252 484)]⟩ 0),⟨[]⟩⟩
abbrev o128 (P:Params):Obj:=⟨.none,none,(.func ⟨c194,c194,(fA (tp 30)),.stmts (fB (tp 30)),(fS (tp 30)),0,[],.none,.none,.none,.none,none,.none,.none,0⟩),⟨[]⟩⟩
abbrev o129 (P:Params):Obj:=⟨(.type l152),none,(.fields ⟨[(vs c194 480),(vs c194 481),(vs c164 482),(vi 153 0),(vi 2 0),(vi 0 0),(vi 0 0),(vi 3 0),(vr 218),(.bool true),(vi 181 0),(vr 219),.none,(vr 220),(vr 221),(vr 222),(vi 485 0),(vi 153 0),(vs c164 486)]⟩),⟨[]⟩⟩
abbrev o130 (P:Params):Obj:=⟨(.type l160),none,(.func ⟨c194,c194,(fA (tp 30)),.stmts (fB (tp 30)),(fS (tp 30)),3,[],.none,.none,.none,(vs c167 447),none,(vr 223),.none,0⟩),⟨[]⟩⟩
abbrev o131 (P:Params):Obj:=⟨(.type l71),none,(.seq ⟨[(vs c250 491)]⟩ 0),⟨[]⟩⟩
abbrev o132 (P:Params):Obj:=⟨.none,none,(.func ⟨c195,c195,(fA (tp 31)),.stmts (fB (tp 31)),(fS (tp 31)),0,[],.none,.none,.none,.none,none,.none,.none,0⟩),⟨[]⟩⟩
abbrev o133 (P:Params):Obj:=⟨(.type l152),none,(.fields ⟨[(vs c195 488),(vs c195 489),(vs c164 490),(vi 158 0),(vi 1 0),(vi 0 0),(vi 0 0),(vi 3 0),(vr 225),(.bool true),(vi 181 0),(vr 226),.none,(vr 227),(vr 228),(vr 229),(vi 492 0),(vi 158 0),(vs c164 493)]⟩),⟨[]⟩⟩
abbrev o134 (P:Params):Obj:=⟨(.type l160),none,(.func ⟨c195,c195,(fA (tp 31)),.stmts (fB (tp 31)),(fS (tp 31)),3,[],.none,.none,.none,(vs c167 447),none,(vr 230),.none,0⟩),⟨[]⟩⟩
abbrev o135 (P:Params):Obj:=⟨.none,none,(.func ⟨c196,c196,(fA (tp 32)),.stmts (fB (tp 32)),(fS (tp 32)),0,[],.none,.none,.none,.none,none,.none,.none,0⟩),⟨[]⟩⟩
abbrev o136 (P:Params):Obj:=⟨(.type l152),none,(.fields ⟨[(vs c196 495),(vs c196 496),(vs c164 497),(vi 160 0),(vi 1 0),(vi 0 0),(vi 0 0),(vi 3 0),(vr 232),(.bool true),(vi 181 0),(vr 233),.none,.none,.none,(vr 234),(vi 498 0),(vi 160 0),(vs c164 499)]⟩),⟨[]⟩⟩
abbrev o137 (P:Params):Obj:=⟨(.type l160),none,(.func ⟨c196,c196,(fA (tp 32)),.stmts (fB (tp 32)),(fS (tp 32)),3,[],.none,.none,.none,(vs c167 447),none,(vr 235),.none,0⟩),⟨[]⟩⟩
abbrev o138 (P:Params):Obj:=⟨(.type l71),none,(.seq ⟨[(vs c253 504),(vs c249 505),(vs c254 506),(vs c255 507)]⟩ 0),⟨[]⟩⟩
abbrev o139 (P:Params):Obj:=⟨.none,none,(.func ⟨c197,c197,(fA (tp 33)),.stmts (fB (tp 33)),(fS (tp 33)),0,[],.none,.none,.none,.none,none,.none,.none,0⟩),⟨[]⟩⟩
abbrev o140 (P:Params):Obj:=⟨(.type l152),none,(.fields ⟨[(vs c197 501),(vs c197 502),(vs c164 503),(vi 162 0),(vi 2 0),(vi 0 0),(vi 0 0),(vi 3 0),(vr 237),(.bool true),(vi 181 0),(vr 238),.none,(vr 239),(vr 240),(vr 241),(vi 508 0),(vi 162 0),(vs c164 509)]⟩),⟨[]⟩⟩
abbrev o141 (P:Params):Obj:=⟨(.type l160),none,(.func ⟨c197,c197,(fA (tp 33)),.stmts (fB (tp 33)),(fS (tp 33)),3,[],.none,.none,.none,(vs c167 447),none,(vr 242),.none,0⟩),⟨[]⟩⟩
abbrev o142 (P:Params):Obj:=⟨.none,none,(.func ⟨c198,c198,(fA (tp 34)),.stmts (fB (tp 34)),(fS (tp 34)),0,[],.none,.none,.none,.none,none,.none,.none,0⟩),⟨[]⟩⟩
abbrev o143 (P:Params):Obj:=⟨(.type l152),none,(.fields ⟨[(vs c198 511),(vs c198 512),(vs c164 513),(vi 167 0),(vi 2 0),(vi 0 0),(vi 0 0),(vi 3 0),(vr 244),(.bool true),(vi 181 0),(vr 245),.none,.none,.none,(vr 246),(vi 514 0),(vi 167 0),(vs c164 515)]⟩),⟨[]⟩⟩
abbrev o144 (P:Params):Obj:=⟨(.type l160),none,(.func ⟨c198,c198,(fA (tp 34)),.stmts (fB (tp 34)),(fS (tp 34)),3,[],.none,.none,.none,(vs c167 447),none,(vr 247),.none,0⟩),⟨[]⟩⟩
abbrev o145 (P:Params):Obj:=⟨(.type l71),none,(.seq ⟨[(vs c256 520),(vs c253 521),(vs c257 522),(vs c258 523)]⟩ 0),⟨[]⟩⟩
abbrev o146 (P:Params):Obj:=⟨.none,none,(.func ⟨c199,c199,(fA (tp 35)),.stmts (fB (tp 35)),(fS (tp 35)),0,[],.none,.none,.none,.none,none,.none,.none,0⟩),⟨[]⟩⟩
abbrev o147 (P:Params):Obj:=⟨(.type l152),none,(.fields ⟨[(vs c199 517),(vs c199 518),(vs c164 519),(vi 176 0),(vi 2 0),(vi 0 0),(vi 0 0),(vi 3 0),(vr 249),(.bool true),(vi 181 0),(vr 250),.none,(vr 251),(vr 252),(vr 253),(vi 524 0),(vi 176 0),(vs c164 525)]⟩),⟨[]⟩⟩
abbrev o148 (P:Params):Obj:=⟨(.type l160),none,(.func ⟨c199,c199,(fA (tp 35)),.stmts (fB (tp 35)),(fS (tp 35)),3,[],.none,.none,.none,(vs c167 447),none,(vr 254),.none,0⟩),⟨[]⟩⟩
abbrev o149 (P:Params):Obj:=⟨(.type l71),none,(.seq ⟨[(vs c241 530),(vs c253 531),(vs c259 532),(vs c260 533),(vs c261 534),(vs c249 535)]⟩ 0),⟨[]⟩⟩
abbrev o150 (P:Params):Obj:=⟨.none,none,(.func ⟨c200,c200,(fA (tp 36)),.stmts (fB (tp 36)),(fS (tp 36)),0,[],.none,.none,.none,.none,none,.none,.none,0⟩),⟨[]⟩⟩
abbrev o151 (P:Params):Obj:=⟨(.type l152),none,(.fields ⟨[(vs c200 527),(vs c200 528),(vs c164 529),(vi 184 0),(vi 1 0),(vi 0 0),(vi 0 0),(vi 3 0),(vr 256),(.bool true),(vi 181 0),(vr 257),.none,(vr 258),(vr 259),(vr 260),(vi 536 0),(vi 184 0),(vs c164 537)]⟩),⟨[]⟩⟩
abbrev o152 (P:Params):Obj:=⟨(.type l160),none,(.func ⟨c200,c200,(fA (tp 36)),.stmts (fB (tp 36)),(fS (tp 36)),3,[],.none,.none,.none,(vs c167 447),none,(vr 261),.none,0⟩),⟨[]⟩⟩
abbrev ha (P:Params):Heap:=⟨⟨[boot_o_0 P,boot_o_1 P,boot_o_2 P,boot_o_3 P,boot_o_4 P,boot_o_5 P,boot_o_6 P,boot_o_7 P,boot_o_8 P,boot_o_9 P,boot_o_10 P,o0 P,o1 P,o2 P,o3 P]⟩,{}⟩
abbrev t0 (P:Params):BT:=(.node (boot_o_0 P) (.node (boot_o_1 P) (.node (boot_o_3 P) (.node (boot_o_7 P) .nil .nil) (.node (o0 P) .nil .nil)) (.node (boot_o_5 P) (.node (boot_o_9 P) .nil .nil) (.node (o2 P) .nil .nil))) (.node (boot_o_2 P) (.node (boot_o_4 P) (.node (boot_o_8 P) .nil .nil) (.node (o1 P) .nil .nil)) (.node (boot_o_6 P) (.node (boot_o_10 P) .nil .nil) (.node (o3 P) .nil .nil))))
abbrev t1 (P:Params):BT:=(.node (boot_o_0 P) (.node (boot_o_1 P) (.node (o4 P) (.node (boot_o_7 P) (.node (o6 P) (.node (o0 P) (.node (o37 P) (.node (o1 P) (.node (o148 P) .nil .nil) .nil) (.node (o1 P) .nil .nil)) (.node (o0 P) (.node (o0 P) .nil .nil) (.node (o129 P) .nil .nil))) (.node (o0 P) (.node (o0 P) (.node (o0 P) .nil .nil) (.node (o0 P) .nil .nil)) (.node (o64 P) (.node (o102 P) .nil .nil) (.node (o138 P) .nil .nil)))) (.node (o11 P) (.node (o23 P) (.node (o0 P) (.node (o78 P) .nil .nil) (.node (o115 P) .nil .nil)) (.node (o0 P) (.node (o0 P) .nil .nil) (.node (o134 P) .nil .nil))) (.node (o0 P) (.node (o51 P) (.node (o88 P) .nil .nil) (.node (o124 P) .nil .nil)) (.node (o0 P) (.node (o0 P) .nil .nil) (.node (o143 P) .nil .nil))))) (.node (o0 P) (.node (o1 P) (.node (o0 P) (.node (o0 P) (.node (o76 P) (.node (o0 P) .nil .nil) .nil) (.node (o113 P) .nil .nil)) (.node (o58 P) (.node (o95 P) .nil .nil) (.node (o131 P) .nil .nil))) (.node (o30 P) (.node (o0 P) (.node (o0 P) .nil .nil) (.node (o0 P) .nil .nil)) (.node (o1 P) (.node (o0 P) .nil .nil) (.node (o141 P) .nil .nil)))) (.node (o15 P) (.node (o0 P) (.node (o44 P) (.node (o81 P) .nil .nil) (.node (o118 P) .nil .nil)) (.node (o0 P) (.node (o0 P) .nil .nil) (.node (o136 P) .nil .nil))) (.node (o0 P) (.node (o0 P) (.node (o0 P) .nil .nil) (.node (o1 P) .nil .nil)) (.node (o71 P) (.node (o108 P) .nil .nil) (.node (o145 P) .nil .nil)))))) (.node (boot_o_5 P) (.node (boot_o_9 P) (.node (o8 P) (.node (o18 P) (.node (o7 P) (.node (o0 P) (.node (o1 P) .nil .nil) .nil) (.node (o0 P) .nil .nil)) (.node (o56 P) (.node (o93 P) .nil .nil) (.node (o0 P) .nil .nil))) (.node (o28 P) (.node (o46 P) (.node (o84 P) .nil .nil) (.node (o121 P) .nil .nil)) (.node (o66 P) (.node (o1 P) .nil .nil) (.node (o139 P) .nil .nil)))) (.node (o13 P) (.node (o7 P) (.node (o42 P) (.node (o79 P) .nil .nil) (.node (o116 P) .nil .nil)) (.node (o61 P) (.node (o98 P) .nil .nil) (.node (o1 P) .nil .nil))) (.node (o32 P) (.node (o7 P) (.node (o1 P) .nil .nil) (.node (o126 P) .nil .nil)) (.node (o70 P) (.node (o107 P) .nil .nil) (.node (o0 P) .nil .nil))))) (.node (o2 P) (.node (o10 P) (.node (o21 P) (.node (o39 P) (.node (o0 P) (.node (o151 P) .nil .nil) .nil) (.node (o0 P) .nil .nil)) (.node (o1 P) (.node (o1 P) .nil .nil) (.node (o132 P) .nil .nil))) (.node (o7 P) (.node (o49 P) (.node (o86 P) .nil .nil) (.node (o123 P) .nil .nil)) (.node (o68 P) (.node (o105 P) .nil .nil) (.node (o1 P) .nil .nil)))) (.node (o7 P) (.node (o25 P) (.node (o7 P) (.node (o1 P) .nil .nil) (.node (o1 P) .nil .nil)) (.node (o63 P) (.node (o100 P) .nil .nil) (.node (o0 P) .nil .nil))) (.node (o35 P) (.node (o53 P) (.node (o91 P) .nil .nil) (.node (o0 P) .nil .nil)) (.node (o73 P) (.node (o110 P) .nil .nil) (.node (o146 P) .nil .nil))))))) (.node (boot_o_2 P) (.node (boot_o_4 P) (.node (boot_o_8 P) (.node (o7 P) (.node (o1 P) (.node (o16 P) (.node (o74 P) (.node (o0 P) .nil .nil) .nil) (.node (o111 P) .nil .nil)) (.node (o55 P) (.node (o1 P) .nil .nil) (.node (o130 P) .nil .nil))) (.node (o27 P) (.node (o1 P) (.node (o83 P) .nil .nil) (.node (o120 P) .nil .nil)) (.node (o65 P) (.node (o0 P) .nil .nil) (.node (o0 P) .nil .nil)))) (.node (o12 P) (.node (o16 P) (.node (o41 P) (.node (o0 P) .nil .nil) (.node (o0 P) .nil .nil)) (.node (o60 P) (.node (o97 P) .nil .nil) (.node (o0 P) .nil .nil))) (.node (o1 P) (.node (o16 P) (.node (o0 P) .nil .nil) (.node (o125 P) .nil .nil)) (.node (o1 P) (.node (o1 P) .nil .nil) (.node (o144 P) .nil .nil))))) (.node (o5 P) (.node (o9 P) (.node (o20 P) (.node (o1 P) (.node (o77 P) (.node (o150 P) .nil .nil) .nil) (.node (o114 P) .nil .nil)) (.node (o0 P) (.node (o0 P) .nil .nil) (.node (o0 P) .nil .nil))) (.node (o16 P) (.node (o48 P) (.node (o1 P) .nil .nil) (.node (o1 P) .nil .nil)) (.node (o67 P) (.node (o104 P) .nil .nil) (.node (o0 P) .nil .nil)))) (.node (o16 P) (.node (o1 P) (.node (o16 P) (.node (o0 P) .nil .nil) (.node (o0 P) .nil .nil)) (.node (o1 P) (.node (o1 P) .nil .nil) (.node (o137 P) .nil .nil))) (.node (o34 P) (.node (o1 P) (.node (o90 P) .nil .nil) (.node (o127 P) .nil .nil)) (.node (o72 P) (.node (o109 P) .nil .nil) (.node (o0 P) .nil .nil)))))) (.node (boot_o_6 P) (.node (boot_o_10 P) (.node (o0 P) (.node (o19 P) (.node (o38 P) (.node (o75 P) (.node (o149 P) .nil .nil) .nil) (.node (o112 P) .nil .nil)) (.node (o57 P) (.node (o94 P) .nil .nil) (.node (o1 P) .nil .nil))) (.node (o29 P) (.node (o47 P) (.node (o85 P) .nil .nil) (.node (o122 P) .nil .nil)) (.node (o0 P) (.node (o103 P) .nil .nil) (.node (o140 P) .nil .nil)))) (.node (o14 P) (.node (o24 P) (.node (o43 P) (.node (o80 P) .nil .nil) (.node (o117 P) .nil .nil)) (.node (o62 P) (.node (o99 P) .nil .nil) (.node (o135 P) .nil .nil))) (.node (o33 P) (.node (o52 P) (.node (o89 P) .nil .nil) (.node (o0 P) .nil .nil)) (.node (o0 P) (.node (o0 P) .nil .nil) (.node (o1 P) .nil .nil))))) (.node (o3 P) (.node (o0 P) (.node (o22 P) (.node (o40 P) (.node (o1 P) (.node (o152 P) .nil .nil) .nil) (.node (o1 P) .nil .nil)) (.node (o59 P) (.node (o96 P) .nil .nil) (.node (o133 P) .nil .nil))) (.node (o31 P) (.node (o50 P) (.node (o87 P) .nil .nil) (.node (o0 P) .nil .nil)) (.node (o69 P) (.node (o106 P) .nil .nil) (.node (o142 P) .nil .nil)))) (.node (o17 P) (.node (o26 P) (.node (o45 P) (.node (o82 P) .nil .nil) (.node (o119 P) .nil .nil)) (.node (o0 P) (.node (o101 P) .nil .nil) (.node (o1 P) .nil .nil))) (.node (o36 P) (.node (o54 P) (.node (o92 P) .nil .nil) (.node (o128 P) .nil .nil)) (.node (o0 P) (.node (o0 P) .nil .nil) (.node (o147 P) .nil .nil))))))))
abbrev hf (P:Params):Heap:=⟨⟨((boot_o_0 P) :: (boot_o_1 P) :: (boot_o_2 P) :: (o4 P) :: (boot_o_4 P) :: (boot_o_5 P) :: (boot_o_6 P) :: (boot_o_7 P) :: (boot_o_8 P) :: (boot_o_9 P) :: (boot_o_10 P) :: (o0 P) :: (o5 P) :: (o2 P) :: (o3 P) :: (o6 P) :: (o7 P) :: (o8 P) :: (o0 P) :: (o1 P) :: (o9 P) :: (o10 P) :: (o0 P) :: (o11 P) :: (o12 P) :: (o13 P) :: (o14 P) :: (o15 P) :: (o16 P) :: (o7 P) :: (o17 P) :: (o0 P) :: (o1 P) :: (o18 P) :: (o19 P) :: (o0 P) :: (o20 P) :: (o21 P) :: (o22 P) :: (o23 P) :: (o16 P) :: (o7 P) :: (o24 P) :: (o0 P) :: (o1 P) :: (o25 P) :: (o26 P) :: (o0 P) :: (o27 P) :: (o28 P) :: (o29 P) :: (o30 P) :: (o16 P) :: (o7 P) :: (o31 P) :: (o0 P) :: (o1 P) :: (o32 P) :: (o33 P) :: (o0 P) :: (o34 P) :: (o35 P) :: (o36 P) :: (o37 P) :: (o16 P) :: (o7 P) :: (o38 P) :: (o0 P) :: (o1 P) :: (o39 P) :: (o40 P) :: (o0 P) :: (o41 P) :: (o42 P) :: (o43 P) :: (o44 P) :: (o16 P) :: (o7 P) :: (o45 P) :: (o0 P) :: (o1 P) :: (o46 P) :: (o47 P) :: (o0 P) :: (o48 P) :: (o49 P) :: (o50 P) :: (o51 P) :: (o16 P) :: (o7 P) :: (o52 P) :: (o0 P) :: (o1 P) :: (o53 P) :: (o54 P) :: (o0 P) :: (o55 P) :: (o56 P) :: (o57 P) :: (o58 P) :: (o0 P) :: (o1 P) :: (o59 P) :: (o0 P) :: (o60 P) :: (o61 P) :: (o62 P) :: (o0 P) :: (o1 P) :: (o63 P) :: (o0 P) :: (o64 P) :: (o65 P) :: (o66 P) :: (o0 P) :: (o1 P) :: (o67 P) :: (o68 P) :: (o69 P) :: (o0 P) :: (o1 P) :: (o70 P) :: (o0 P) :: (o71 P) :: (o72 P) :: (o73 P) :: (o0 P) :: (o1 P) :: (o74 P) :: (o0 P) :: (o75 P) :: (o76 P) :: (o77 P) :: (o0 P) :: (o1 P) :: (o78 P) :: (o0 P) :: (o79 P) :: (o80 P) :: (o81 P) :: (o0 P) :: (o1 P) :: (o82 P) :: (o0 P) :: (o83 P) :: (o84 P) :: (o85 P) :: (o0 P) :: (o1 P) :: (o86 P) :: (o87 P) :: (o88 P) :: (o0 P) :: (o1 P) :: (o89 P) :: (o0 P) :: (o90 P) :: (o91 P) :: (o92 P) :: (o0 P) :: (o1 P) :: (o93 P) :: (o94 P) :: (o95 P) :: (o0 P) :: (o1 P) :: (o96 P) :: (o0 P) :: (o97 P) :: (o98 P) :: (o99 P) :: (o0 P) :: (o1 P) :: (o100 P) :: (o101 P) :: (o102 P) :: (o0 P) :: (o1 P) :: (o103 P) :: (o0 P) :: (o104 P) :: (o105 P) :: (o106 P) :: (o0 P) :: (o1 P) :: (o107 P) :: (o0 P) :: (o108 P) :: (o109 P) :: (o110 P) :: (o0 P) :: (o1 P) :: (o111 P) :: (o0 P) :: (o112 P) :: (o113 P) :: (o114 P) :: (o0 P) :: (o1 P) :: (o115 P) :: (o0 P) :: (o116 P) :: (o117 P) :: (o118 P) :: (o0 P) :: (o1 P) :: (o119 P) :: (o0 P) :: (o120 P) :: (o121 P) :: (o122 P) :: (o0 P) :: (o1 P) :: (o123 P) :: (o0 P) :: (o124 P) :: (o125 P) :: (o126 P) :: (o0 P) :: (o1 P) :: (o127 P) :: (o0 P) :: (o128 P) :: (o129 P) :: (o130 P) :: (o0 P) :: (o1 P) :: (o131 P) :: (o0 P) :: (o132 P) :: (o133 P) :: (o134 P) :: (o0 P) :: (o1 P) :: (o135 P) :: (o136 P) :: (o137 P) :: (o0 P) :: (o1 P) :: (o138 P) :: (o0 P) :: (o139 P) :: (o140 P) :: (o141 P) :: (o0 P) :: (o1 P) :: (o142 P) :: (o143 P) :: (o144 P) :: (o0 P) :: (o1 P) :: (o145 P) :: (o0 P) :: (o146 P) :: (o147 P) :: (o148 P) :: (o0 P) :: (o1 P) :: (o149 P) :: (o0 P) :: (o150 P) :: (o151 P) :: (o152 P) :: [])⟩,{}⟩
abbrev b':List Stmt:=behindTheImports p'
abbrev env':Env:={ scope:=p'.main.scope,locals:=mainNs,globals:=mainNs,cells:=[],code:=(vr 13),frame:=some 14 }
abbrev cE:Code:=.body b' env'
abbrev qp:Pos:=⟨0,0,0,0⟩
abbrev B:List Frame:=[topFrame qp]
abbrev ann:Option Value:=(some (.ref 6))
abbrev s0:List Stmt:=(b'.drop 0).take 37
set_option maxRecDepth 100000 in
theorem pre0 (w:World):(fun os=>PySem.W.Fast.tw15667345088766844465 PySem.W.Fast.tw14364793385576792824 p' w 11 ann 12 (⟨boot_heap w.params,⟨[]⟩,boot_drawn,boot_toks,os⟩:Shared) (topStub p')) = fun os=>some ((⟨ha w.params,⟨[]⟩,{},187,os⟩:Shared),(⟨PySem.W.Fast.tw11892475500146522536 PySem.W.Fast.tw14364793385576792824 cE,cE,⟨0,0,0,0⟩,B⟩:Thread)):=by kernel_rfl
set_option maxRecDepth 100000 in
theorem blk0 (w:World):(fun os=>PySem.W.Fast.tw14374325043358763698 PySem.W.Fast.tw14364793385576792824 p' w 11 ann (nat_lit 1) 1 (⟨ha w.params,⟨[]⟩,{},187,os⟩:Shared) (blockOf b' env' cE ⟨0,0,0,0⟩ B)) = fun os=>some (Flow.next,SharedT.abs ⟨t0 w.params,15,{},⟨[]⟩,{},187,os⟩,cE,⟨0,0,0,0⟩):=by kernel_rfl
set_option maxRecDepth 100000 in
theorem q0 (w:World):(fun os=>PySem.W.Fast.tw10110043849684766642 PySem.W.Fast.tw14364793385576792824 p' w 11 ann (nat_lit 1) 2276 ⟨t0 w.params,15,{},⟨[]⟩,{},187,os⟩ (piecesOf s0 env' cE ⟨0,0,0,0⟩ B)) = fun os=>some (Flow.next,⟨t1 w.params,263,{},⟨[]⟩,{},539,os⟩,cE,⟨184,0,202,56⟩):=by kernel_rfl
set_option maxRecDepth 100000 in
theorem fin0 (w:World):(fun os=>PySem.W.Fast.tw14082659384304107361 PySem.W.Fast.tw14364793385576792824 p' w 11 ann 2 (SharedT.abs ⟨t1 w.params,263,{},⟨[]⟩,{},539,os⟩) ⟨doneF Flow.next,cE,⟨184,0,202,56⟩,B⟩) = fun os=>some (⟨hf w.params,⟨[]⟩,{},539,os⟩:Shared):=by kernel_rfl
set_option maxRecDepth 100000 in
theorem bsplit:b' = s0 ++ ([]):=by kernel_rfl
theorem fin1 (w:World) (os:OsState):topRun treeTable p' w 11 ann 2 (SharedT.abs ⟨t1 w.params,263,{},⟨[]⟩,{},539,os⟩) (restOf [] env' cE ⟨184,0,202,56⟩ B) = some (⟨hf w.params,⟨[]⟩,{},539,os⟩:Shared):=by
  have h:=congrFun (fin0 w) os
  rw [← PySem.W.Fast.te14082659384304107361,← PySem.W.Fast.te14364793385576792824] at h
  exact h
theorem u0 (w:World) (os:OsState):topRun treeTable p' w 11 ann (2276 + 2) (SharedT.abs ⟨t0 w.params,15,{},⟨[]⟩,{},187,os⟩) (restOf (s0 ++ ([])) env' cE ⟨0,0,0,0⟩ B) = some (⟨hf w.params,⟨[]⟩,{},539,os⟩:Shared):=by
  have h:=congrFun (q0 w) os
  rw [← PySem.W.Fast.te10110043849684766642,← PySem.W.Fast.te14364793385576792824] at h
  exact piece_app (segRun_of h) (fin1 w os)
theorem ub (w:World) (os:OsState):topRun treeTable p' w 11 ann (1 + (2276 + 2)) (⟨ha w.params,⟨[]⟩,{},187,os⟩:Shared) ⟨denote treeTable (.body b' env'),cE,⟨0,0,0,0⟩,B⟩ = some (⟨hf w.params,⟨[]⟩,{},539,os⟩:Shared):=by
  have h:=congrFun (blk0 w) os
  rw [← PySem.W.Fast.te14374325043358763698,← PySem.W.Fast.te14364793385576792824] at h
  have e:restOf b' env' cE ⟨0,0,0,0⟩ B = restOf (s0 ++ ([])) env' cE ⟨0,0,0,0⟩ B:=congrArg (fun l=>restOf l env' cE ⟨0,0,0,0⟩ B) bsplit
  have k:=u0 w os
  rw [← e] at k
  exact piece_block h k
theorem run (w:World) (os:OsState):topRun treeTable p' w 11 ann (12 + (1 + (2276 + 2))) (⟨boot_heap w.params,⟨[]⟩,boot_drawn,boot_toks,os⟩:Shared) (topStub p') = some (⟨hf w.params,⟨[]⟩,{},539,os⟩:Shared):=by
  have h:=congrFun (pre0 w) os
  rw [← PySem.W.Fast.te15667345088766844465,← PySem.W.Fast.te11892475500146522536,← PySem.W.Fast.te14364793385576792824] at h
  exact go_top h (ub w os)
def viewOf (p:Program):Program:={ p with main:={ p.main with body:=[tpOf p 1,tpOf p 2,tpOf p 3,tpOf p 4,tpOf p 5,tpOf p 6,tpOf p 7,tpOf p 9,tpOf p 10,tpOf p 11,tpOf p 12,tpOf p 13,tpOf p 14,tpOf p 15,tpOf p 17,tpOf p 18,tpOf p 19,tpOf p 20,tpOf p 21,tpOf p 22,tpOf p 23,tpOf p 24,tpOf p 25,tpOf p 27,tpOf p 28,tpOf p 29,tpOf p 30,tpOf p 31,tpOf p 32,tpOf p 33,tpOf p 34,tpOf p 35,tpOf p 36] } }
abbrev K (P:Params):Frag:=(nat_lit 2,⟨.none,none,(.dict #[] 0),#[]⟩)
  :: (nat_lit 3,⟨(.type "dict"),none,(.dict (List.toArray ((⟨PyData.keyHash P (S "__name__"),(.str (S "__name__") 165),(.str (S "law_wheelrow_k05_sums") 447)⟩) :: (⟨PyData.keyHash P (S "__doc__"),(.str (S "__doc__") 166),.none⟩) :: (⟨PyData.keyHash P (S "__package__"),(.str (S "__package__") 167),.none⟩) :: (⟨PyData.keyHash P (S "__loader__"),(.str (S "__loader__") 168),(.builtin "__main__.__loader__#opaque")⟩) :: (⟨PyData.keyHash P (S "__spec__"),(.str (S "__spec__") 169),.none⟩) :: (⟨PyData.keyHash P (S "__annotations__"),(.str (S "__annotations__") 170),(.ref 6)⟩) :: (⟨PyData.keyHash P (S "__builtins__"),(.str (S "__builtins__") 171),(.ref 4)⟩) :: (⟨PyData.keyHash P (S "__file__"),(.str (S "__file__") 173),(.str (S "/claim/cut.py") 172)⟩) :: (⟨PyData.keyHash P (S "__cached__"),(.str (S "__cached__") 174),.none⟩) :: (⟨PyData.keyHash P (S "RestError"),(.str (S "RestError") 206),(.ref 24)⟩) :: (⟨PyData.keyHash P (S "BadRests"),(.str (S "BadRests") 222),(.ref 37)⟩) :: (⟨PyData.keyHash P (S "BadNumbers"),(.str (S "BadNumbers") 238),(.ref 49)⟩) :: (⟨PyData.keyHash P (S "BadRound"),(.str (S "BadRound") 254),(.ref 61)⟩) :: (⟨PyData.keyHash P (S "BadRest"),(.str (S "BadRest") 270),(.ref 73)⟩) :: (⟨PyData.keyHash P (S "BadCount"),(.str (S "BadCount") 286),(.ref 85)⟩) :: (⟨PyData.keyHash P (S "BadText"),(.str (S "BadText") 302),(.ref 97)⟩) :: (⟨PyData.keyHash P (S "GREATEST_NUMBER"),(.str (S "GREATEST_NUMBER") 306),(.int 1000000 305)⟩) :: (⟨PyData.keyHash P (S "is_whole"),(.str (S "is_whole") 313),(.ref 106)⟩) :: (⟨PyData.keyHash P (S "is_number"),(.str (S "is_number") 320),(.ref 113)⟩) :: (⟨PyData.keyHash P (S "are_numbers"),(.str (S "are_numbers") 326),(.ref 118)⟩) :: (⟨PyData.keyHash P (S "goes_into"),(.str (S "goes_into") 334),(.ref 125)⟩) :: (⟨PyData.keyHash P (S "part_with_times"),(.str (S "part_with_times") 350),(.ref 132)⟩) :: (⟨PyData.keyHash P (S "turned_back"),(.str (S "turned_back") 358),(.ref 139)⟩) :: (⟨PyData.keyHash P (S "stretch"),(.str (S "stretch") 370),(.ref 146)⟩) :: (⟨PyData.keyHash P (S "chosen"),(.str (S "chosen") 376),(.ref 151)⟩) :: (⟨PyData.keyHash P (S "primes_of"),(.str (S "primes_of") 386),(.ref 158)⟩) :: (⟨PyData.keyHash P (S "grouped"),(.str (S "grouped") 392),(.ref 163)⟩) :: (⟨PyData.keyHash P (S "together"),(.str (S "together") 403),(.ref 170)⟩) :: (⟨PyData.keyHash P (S "picked"),(.str (S "picked") 409),(.ref 175)⟩) :: (⟨PyData.keyHash P (S "changes"),(.str (S "changes") 422),(.ref 182)⟩) :: (⟨PyData.keyHash P (S "reached_sums"),(.str (S "reached_sums") 433),(.ref 189)⟩) :: (⟨PyData.keyHash P (S "new_sum"),(.str (S "new_sum") 446),(.ref 196)⟩) :: (⟨PyData.keyHash P (S "_law_cell_at"),(.str (S "_law_cell_at") 456),(.ref 203)⟩) :: (⟨PyData.keyHash P (S "_law_draw"),(.str (S "_law_draw") 466),(.ref 210)⟩) :: (⟨PyData.keyHash P (S "_law_row"),(.str (S "_law_row") 479),(.ref 217)⟩) :: (⟨PyData.keyHash P (S "_law_part"),(.str (S "_law_part") 487),(.ref 224)⟩) :: (⟨PyData.keyHash P (S "_law_whole"),(.str (S "_law_whole") 494),(.ref 231)⟩) :: (⟨PyData.keyHash P (S "_law_numbers"),(.str (S "_law_numbers") 500),(.ref 236)⟩) :: (⟨PyData.keyHash P (S "_law_stretched"),(.str (S "_law_stretched") 510),(.ref 243)⟩) :: (⟨PyData.keyHash P (S "_law_picked"),(.str (S "_law_picked") 516),(.ref 248)⟩) :: (⟨PyData.keyHash P (S "_law_bad_count"),(.str (S "_law_bad_count") 526),(.ref 255)⟩) :: (⟨PyData.keyHash P (S "law"),(.str (S "law") 538),(.ref 262)⟩) :: [])) 42),#[]⟩)
  :: (nat_lit 4,⟨(.type "module"),some 0,.plain,#[]⟩)
  :: (nat_lit 15,⟨(.type "tuple"),none,(.seq #[(.type "ValueError")] 0),#[]⟩)
  :: (nat_lit 22,⟨(.type "tuple"),none,(.seq #[] 0),#[]⟩)
  :: (nat_lit 23,⟨(.type "dict"),none,(.dict #[⟨PyData.keyHash P (S "__module__"),(.str (S "__module__") 196),(.str (S "wheelrow.errors") 187)⟩,⟨PyData.keyHash P (S "__firstlineno__"),(.str (S "__firstlineno__") 200),(.int 2 199)⟩,⟨PyData.keyHash P (S "__static_attributes__"),(.str (S "__static_attributes__") 201),(.ref 22)⟩,⟨PyData.keyHash P (S "__weakref__"),(.str (S "__weakref__") 203),(.ref 25)⟩,⟨PyData.keyHash P (S "__doc__"),(.str (S "__doc__") 204),.none⟩] 3),#[]⟩)
  :: (nat_lit 24,⟨(.type "type"),none,(.cls ⟨(S "RestError"),[(.type "ValueError")],[(.ref 24),(.type "ValueError"),(.type "Exception"),(.type "BaseException"),(.type "object")],23,(S "RestError"),true,[],[(.ref 37),(.ref 49),(.ref 61),(.ref 73),(.ref 85),(.ref 97)],false,none,false⟩),#[some (.ref 15),none,some (.str (S "RestError") 189),some (.str (S "RestError") 197),some (.builtin "ValueError.__new__"),some (.bool true)]⟩)
  :: (nat_lit 25,⟨(.type "getset_descriptor"),none,(.fields #[(.str (S "__weakref__") 202),(.ref 24),(.builtin "ExceptionGroup.__weakref__"),.none]),#[]⟩)
  :: (nat_lit 28,⟨(.type "tuple"),none,(.seq #[(.ref 24)] 0),#[]⟩)
  :: (nat_lit 35,⟨(.type "tuple"),none,(.seq #[] 0),#[]⟩)
  :: (nat_lit 36,⟨(.type "dict"),none,(.dict #[⟨PyData.keyHash P (S "__module__"),(.str (S "__module__") 214),(.str (S "wheelrow.errors") 187)⟩,⟨PyData.keyHash P (S "__firstlineno__"),(.str (S "__firstlineno__") 218),(.int 4 217)⟩,⟨PyData.keyHash P (S "__static_attributes__"),(.str (S "__static_attributes__") 219),(.ref 35)⟩,⟨PyData.keyHash P (S "__doc__"),(.str (S "__doc__") 220),.none⟩] 2),#[]⟩)
  :: (nat_lit 37,⟨(.type "type"),none,(.cls ⟨(S "BadRests"),[(.ref 24)],[(.ref 37),(.ref 24),(.type "ValueError"),(.type "Exception"),(.type "BaseException"),(.type "object")],36,(S "BadRests"),true,[],[],false,none,false⟩),#[some (.ref 28),none,some (.str (S "BadRests") 207),some (.str (S "BadRests") 215),some (.builtin "ValueError.__new__"),some (.bool true)]⟩)
  :: (nat_lit 40,⟨(.type "tuple"),none,(.seq #[(.ref 24)] 0),#[]⟩)
  :: (nat_lit 47,⟨(.type "tuple"),none,(.seq #[] 0),#[]⟩)
  :: (nat_lit 48,⟨(.type "dict"),none,(.dict #[⟨PyData.keyHash P (S "__module__"),(.str (S "__module__") 230),(.str (S "wheelrow.errors") 187)⟩,⟨PyData.keyHash P (S "__firstlineno__"),(.str (S "__firstlineno__") 234),(.int 6 233)⟩,⟨PyData.keyHash P (S "__static_attributes__"),(.str (S "__static_attributes__") 235),(.ref 47)⟩,⟨PyData.keyHash P (S "__doc__"),(.str (S "__doc__") 236),.none⟩] 2),#[]⟩)
  :: (nat_lit 49,⟨(.type "type"),none,(.cls ⟨(S "BadNumbers"),[(.ref 24)],[(.ref 49),(.ref 24),(.type "ValueError"),(.type "Exception"),(.type "BaseException"),(.type "object")],48,(S "BadNumbers"),true,[],[],false,none,false⟩),#[some (.ref 40),none,some (.str (S "BadNumbers") 223),some (.str (S "BadNumbers") 231),some (.builtin "ValueError.__new__"),some (.bool true)]⟩)
  :: (nat_lit 52,⟨(.type "tuple"),none,(.seq #[(.ref 24)] 0),#[]⟩)
  :: (nat_lit 59,⟨(.type "tuple"),none,(.seq #[] 0),#[]⟩)
  :: (nat_lit 60,⟨(.type "dict"),none,(.dict #[⟨PyData.keyHash P (S "__module__"),(.str (S "__module__") 246),(.str (S "wheelrow.errors") 187)⟩,⟨PyData.keyHash P (S "__firstlineno__"),(.str (S "__firstlineno__") 250),(.int 8 249)⟩,⟨PyData.keyHash P (S "__static_attributes__"),(.str (S "__static_attributes__") 251),(.ref 59)⟩,⟨PyData.keyHash P (S "__doc__"),(.str (S "__doc__") 252),.none⟩] 2),#[]⟩)
  :: (nat_lit 61,⟨(.type "type"),none,(.cls ⟨(S "BadRound"),[(.ref 24)],[(.ref 61),(.ref 24),(.type "ValueError"),(.type "Exception"),(.type "BaseException"),(.type "object")],60,(S "BadRound"),true,[],[],false,none,false⟩),#[some (.ref 52),none,some (.str (S "BadRound") 239),some (.str (S "BadRound") 247),some (.builtin "ValueError.__new__"),some (.bool true)]⟩)
  :: (nat_lit 64,⟨(.type "tuple"),none,(.seq #[(.ref 24)] 0),#[]⟩)
  :: (nat_lit 71,⟨(.type "tuple"),none,(.seq #[] 0),#[]⟩)
  :: (nat_lit 72,⟨(.type "dict"),none,(.dict #[⟨PyData.keyHash P (S "__module__"),(.str (S "__module__") 262),(.str (S "wheelrow.errors") 187)⟩,⟨PyData.keyHash P (S "__firstlineno__"),(.str (S "__firstlineno__") 266),(.int 10 265)⟩,⟨PyData.keyHash P (S "__static_attributes__"),(.str (S "__static_attributes__") 267),(.ref 71)⟩,⟨PyData.keyHash P (S "__doc__"),(.str (S "__doc__") 268),.none⟩] 2),#[]⟩)
  :: (nat_lit 73,⟨(.type "type"),none,(.cls ⟨(S "BadRest"),[(.ref 24)],[(.ref 73),(.ref 24),(.type "ValueError"),(.type "Exception"),(.type "BaseException"),(.type "object")],72,(S "BadRest"),true,[],[],false,none,false⟩),#[some (.ref 64),none,some (.str (S "BadRest") 255),some (.str (S "BadRest") 263),some (.builtin "ValueError.__new__"),some (.bool true)]⟩)
  :: (nat_lit 76,⟨(.type "tuple"),none,(.seq #[(.ref 24)] 0),#[]⟩)
  :: (nat_lit 83,⟨(.type "tuple"),none,(.seq #[] 0),#[]⟩)
  :: (nat_lit 84,⟨(.type "dict"),none,(.dict #[⟨PyData.keyHash P (S "__module__"),(.str (S "__module__") 278),(.str (S "wheelrow.errors") 187)⟩,⟨PyData.keyHash P (S "__firstlineno__"),(.str (S "__firstlineno__") 282),(.int 12 281)⟩,⟨PyData.keyHash P (S "__static_attributes__"),(.str (S "__static_attributes__") 283),(.ref 83)⟩,⟨PyData.keyHash P (S "__doc__"),(.str (S "__doc__") 284),.none⟩] 2),#[]⟩)
  :: (nat_lit 85,⟨(.type "type"),none,(.cls ⟨(S "BadCount"),[(.ref 24)],[(.ref 85),(.ref 24),(.type "ValueError"),(.type "Exception"),(.type "BaseException"),(.type "object")],84,(S "BadCount"),true,[],[],false,none,false⟩),#[some (.ref 76),none,some (.str (S "BadCount") 271),some (.str (S "BadCount") 279),some (.builtin "ValueError.__new__"),some (.bool true)]⟩)
  :: (nat_lit 88,⟨(.type "tuple"),none,(.seq #[(.ref 24)] 0),#[]⟩)
  :: (nat_lit 95,⟨(.type "tuple"),none,(.seq #[] 0),#[]⟩)
  :: (nat_lit 96,⟨(.type "dict"),none,(.dict #[⟨PyData.keyHash P (S "__module__"),(.str (S "__module__") 294),(.str (S "wheelrow.errors") 187)⟩,⟨PyData.keyHash P (S "__firstlineno__"),(.str (S "__firstlineno__") 298),(.int 14 297)⟩,⟨PyData.keyHash P (S "__static_attributes__"),(.str (S "__static_attributes__") 299),(.ref 95)⟩,⟨PyData.keyHash P (S "__doc__"),(.str (S "__doc__") 300),.none⟩] 2),#[]⟩)
  :: (nat_lit 97,⟨(.type "type"),none,(.cls ⟨(S "BadText"),[(.ref 24)],[(.ref 97),(.ref 24),(.type "ValueError"),(.type "Exception"),(.type "BaseException"),(.type "object")],96,(S "BadText"),true,[],[],false,none,false⟩),#[some (.ref 88),none,some (.str (S "BadText") 287),some (.str (S "BadText") 295),some (.builtin "ValueError.__new__"),some (.bool true)]⟩)
  :: (nat_lit 100,⟨(.type "tuple"),none,(.seq #[] 0),#[]⟩)
  :: (nat_lit 102,⟨(.type "tuple"),none,(.seq #[(.str (S "value") 310)] 0),#[]⟩)
  :: (nat_lit 103,⟨(.type "tuple"),none,(.seq #[] 0),#[]⟩)
  :: (nat_lit 105,⟨(.type "code"),none,(.fields #[(.str (S "is_whole") 307),(.str (S "is_whole") 308),(.str (S "/claim/cut.py") 309),(.int 18 0),(.int 1 0),(.int 0 0),(.int 0 0),(.int 3 0),(.ref 100),(.bool true),(.int 181 0),(.ref 101),.none,(.ref 102),(.ref 103),(.ref 104),(.int 311 0),(.int 18 0),(.str (S "/claim/cut.py") 312)]),#[]⟩)
  :: (nat_lit 106,⟨(.type "function"),none,(.func ⟨(S "is_whole"),(S "is_whole"),(L2.defArgs (W05.top 10)),.stmts (L2.defBody (W05.top 10)),(L2.defScope (W05.top 10)),3,[],.none,.none,.none,(.str (S "wheelrow.numbers") 303),none,(.ref 105),.none,0⟩),#[]⟩)
  :: (nat_lit 107,⟨(.type "tuple"),none,(.seq #[] 0),#[]⟩)
  :: (nat_lit 109,⟨(.type "tuple"),none,(.seq #[(.str (S "value") 317)] 0),#[]⟩)
  :: (nat_lit 110,⟨(.type "tuple"),none,(.seq #[] 0),#[]⟩)
  :: (nat_lit 112,⟨(.type "code"),none,(.fields #[(.str (S "is_number") 314),(.str (S "is_number") 315),(.str (S "/claim/cut.py") 316),(.int 20 0),(.int 1 0),(.int 0 0),(.int 0 0),(.int 3 0),(.ref 107),(.bool true),(.int 181 0),(.ref 108),.none,(.ref 109),(.ref 110),(.ref 111),(.int 318 0),(.int 20 0),(.str (S "/claim/cut.py") 319)]),#[]⟩)
  :: (nat_lit 113,⟨(.type "function"),none,(.func ⟨(S "is_number"),(S "is_number"),(L2.defArgs (W05.top 11)),.stmts (L2.defBody (W05.top 11)),(L2.defScope (W05.top 11)),3,[],.none,.none,.none,(.str (S "wheelrow.numbers") 303),none,(.ref 112),.none,0⟩),#[]⟩)
  :: (nat_lit 114,⟨(.type "tuple"),none,(.seq #[] 0),#[]⟩)
  :: (nat_lit 117,⟨(.type "code"),none,(.fields #[(.str (S "are_numbers") 321),(.str (S "are_numbers") 322),(.str (S "/claim/cut.py") 323),(.int 22 0),(.int 1 0),(.int 0 0),(.int 0 0),(.int 3 0),(.ref 114),(.bool true),(.int 181 0),(.ref 115),.none,.none,.none,(.ref 116),(.int 324 0),(.int 22 0),(.str (S "/claim/cut.py") 325)]),#[]⟩)
  :: (nat_lit 118,⟨(.type "function"),none,(.func ⟨(S "are_numbers"),(S "are_numbers"),(L2.defArgs (W05.top 12)),.stmts (L2.defBody (W05.top 12)),(L2.defScope (W05.top 12)),3,[],.none,.none,.none,(.str (S "wheelrow.numbers") 303),none,(.ref 117),.none,0⟩),#[]⟩)
  :: (nat_lit 119,⟨(.type "tuple"),none,(.seq #[] 0),#[]⟩)
  :: (nat_lit 121,⟨(.type "tuple"),none,(.seq #[(.str (S "part") 330),(.str (S "number") 331)] 0),#[]⟩)
  :: (nat_lit 122,⟨(.type "tuple"),none,(.seq #[] 0),#[]⟩)
  :: (nat_lit 124,⟨(.type "code"),none,(.fields #[(.str (S "goes_into") 327),(.str (S "goes_into") 328),(.str (S "/claim/cut.py") 329),(.int 24 0),(.int 2 0),(.int 0 0),(.int 0 0),(.int 3 0),(.ref 119),(.bool true),(.int 181 0),(.ref 120),.none,(.ref 121),(.ref 122),(.ref 123),(.int 332 0),(.int 24 0),(.str (S "/claim/cut.py") 333)]),#[]⟩)
  :: (nat_lit 125,⟨(.type "function"),none,(.func ⟨(S "goes_into"),(S "goes_into"),(L2.defArgs (W05.top 13)),.stmts (L2.defBody (W05.top 13)),(L2.defScope (W05.top 13)),3,[],.none,.none,.none,(.str (S "wheelrow.numbers") 303),none,(.ref 124),.none,0⟩),#[]⟩)
  :: (nat_lit 126,⟨(.type "tuple"),none,(.seq #[] 0),#[]⟩)
  :: (nat_lit 128,⟨(.type "tuple"),none,(.seq #[(.str (S "one") 338),(.str (S "other") 339),(.str (S "part") 340),(.str (S "often") 341),(.str (S "left") 342),(.str (S "left_often") 343),(.str (S "whole") 344),(.str (S "following") 345),(.str (S "following_often") 346),(.str (S "other_often") 347)] 0),#[]⟩)
  :: (nat_lit 129,⟨(.type "tuple"),none,(.seq #[] 0),#[]⟩)
  :: (nat_lit 131,⟨(.type "code"),none,(.fields #[(.str (S "part_with_times") 335),(.str (S "part_with_times") 336),(.str (S "/claim/cut.py") 337),(.int 26 0),(.int 2 0),(.int 0 0),(.int 0 0),(.int 3 0),(.ref 126),(.bool true),(.int 181 0),(.ref 127),.none,(.ref 128),(.ref 129),(.ref 130),(.int 348 0),(.int 26 0),(.str (S "/claim/cut.py") 349)]),#[]⟩)
  :: (nat_lit 132,⟨(.type "function"),none,(.func ⟨(S "part_with_times"),(S "part_with_times"),(L2.defArgs (W05.top 14)),.stmts (L2.defBody (W05.top 14)),(L2.defScope (W05.top 14)),3,[],.none,.none,.none,(.str (S "wheelrow.numbers") 303),none,(.ref 131),.none,0⟩),#[]⟩)
  :: (nat_lit 133,⟨(.type "tuple"),none,(.seq #[] 0),#[]⟩)
  :: (nat_lit 135,⟨(.type "tuple"),none,(.seq #[(.str (S "number") 354),(.str (S "turn") 355)] 0),#[]⟩)
  :: (nat_lit 136,⟨(.type "tuple"),none,(.seq #[] 0),#[]⟩)
  :: (nat_lit 138,⟨(.type "code"),none,(.fields #[(.str (S "turned_back") 351),(.str (S "turned_back") 352),(.str (S "/claim/cut.py") 353),(.int 43 0),(.int 2 0),(.int 0 0),(.int 0 0),(.int 3 0),(.ref 133),(.bool true),(.int 181 0),(.ref 134),.none,(.ref 135),(.ref 136),(.ref 137),(.int 356 0),(.int 43 0),(.str (S "/claim/cut.py") 357)]),#[]⟩)
  :: (nat_lit 139,⟨(.type "function"),none,(.func ⟨(S "turned_back"),(S "turned_back"),(L2.defArgs (W05.top 15)),.stmts (L2.defBody (W05.top 15)),(L2.defScope (W05.top 15)),3,[],.none,.none,.none,(.str (S "wheelrow.numbers") 303),none,(.ref 138),.none,0⟩),#[]⟩)
  :: (nat_lit 140,⟨(.type "tuple"),none,(.seq #[] 0),#[]⟩)
  :: (nat_lit 142,⟨(.type "tuple"),none,(.seq #[(.str (S "numbers") 364),(.str (S "begins") 365),(.str (S "last") 366),(.str (S "total") 367)] 0),#[]⟩)
  :: (nat_lit 143,⟨(.type "tuple"),none,(.seq #[] 0),#[]⟩)
  :: (nat_lit 145,⟨(.type "code"),none,(.fields #[(.str (S "stretch") 361),(.str (S "stretch") 362),(.str (S "/claim/cut.py") 363),(.int 46 0),(.int 1 0),(.int 0 0),(.int 0 0),(.int 3 0),(.ref 140),(.bool true),(.int 181 0),(.ref 141),.none,(.ref 142),(.ref 143),(.ref 144),(.int 368 0),(.int 46 0),(.str (S "/claim/cut.py") 369)]),#[]⟩)
  :: (nat_lit 146,⟨(.type "function"),none,(.func ⟨(S "stretch"),(S "stretch"),(L2.defArgs (W05.top 17)),.stmts (L2.defBody (W05.top 17)),(L2.defScope (W05.top 17)),3,[],.none,.none,.none,(.str (S "wheelrow.sums") 359),none,(.ref 145),.none,0⟩),#[]⟩)
  :: (nat_lit 147,⟨(.type "tuple"),none,(.seq #[] 0),#[]⟩)
  :: (nat_lit 150,⟨(.type "code"),none,(.fields #[(.str (S "chosen") 371),(.str (S "chosen") 372),(.str (S "/claim/cut.py") 373),(.int 59 0),(.int 1 0),(.int 0 0),(.int 0 0),(.int 3 0),(.ref 147),(.bool true),(.int 181 0),(.ref 148),.none,.none,.none,(.ref 149),(.int 374 0),(.int 59 0),(.str (S "/claim/cut.py") 375)]),#[]⟩)
  :: (nat_lit 151,⟨(.type "function"),none,(.func ⟨(S "chosen"),(S "chosen"),(L2.defArgs (W05.top 18)),.stmts (L2.defBody (W05.top 18)),(L2.defScope (W05.top 18)),3,[],.none,.none,.none,(.str (S "wheelrow.sums") 359),none,(.ref 150),.none,0⟩),#[]⟩)
  :: (nat_lit 152,⟨(.type "tuple"),none,(.seq #[] 0),#[]⟩)
  :: (nat_lit 154,⟨(.type "tuple"),none,(.seq #[(.str (S "count") 380),(.str (S "primes") 381),(.str (S "left") 382),(.str (S "prime") 383)] 0),#[]⟩)
  :: (nat_lit 155,⟨(.type "tuple"),none,(.seq #[] 0),#[]⟩)
  :: (nat_lit 157,⟨(.type "code"),none,(.fields #[(.str (S "primes_of") 377),(.str (S "primes_of") 378),(.str (S "/claim/cut.py") 379),(.int 68 0),(.int 1 0),(.int 0 0),(.int 0 0),(.int 3 0),(.ref 152),(.bool true),(.int 181 0),(.ref 153),.none,(.ref 154),(.ref 155),(.ref 156),(.int 384 0),(.int 68 0),(.str (S "/claim/cut.py") 385)]),#[]⟩)
  :: (nat_lit 158,⟨(.type "function"),none,(.func ⟨(S "primes_of"),(S "primes_of"),(L2.defArgs (W05.top 19)),.stmts (L2.defBody (W05.top 19)),(L2.defScope (W05.top 19)),3,[],.none,.none,.none,(.str (S "wheelrow.sums") 359),none,(.ref 157),.none,0⟩),#[]⟩)
  :: (nat_lit 159,⟨(.type "tuple"),none,(.seq #[] 0),#[]⟩)
  :: (nat_lit 162,⟨(.type "code"),none,(.fields #[(.str (S "grouped") 387),(.str (S "grouped") 388),(.str (S "/claim/cut.py") 389),(.int 81 0),(.int 2 0),(.int 0 0),(.int 0 0),(.int 3 0),(.ref 159),(.bool true),(.int 181 0),(.ref 160),.none,.none,.none,(.ref 161),(.int 390 0),(.int 81 0),(.str (S "/claim/cut.py") 391)]),#[]⟩)
  :: (nat_lit 163,⟨(.type "function"),none,(.func ⟨(S "grouped"),(S "grouped"),(L2.defArgs (W05.top 20)),.stmts (L2.defBody (W05.top 20)),(L2.defScope (W05.top 20)),3,[],.none,.none,.none,(.str (S "wheelrow.sums") 359),none,(.ref 162),.none,0⟩),#[]⟩)
  :: (nat_lit 164,⟨(.type "tuple"),none,(.seq #[] 0),#[]⟩)
  :: (nat_lit 166,⟨(.type "tuple"),none,(.seq #[(.str (S "groups") 396),(.str (S "prime") 397),(.str (S "total") 398),(.str (S "places") 399),(.str (S "group") 400)] 0),#[]⟩)
  :: (nat_lit 167,⟨(.type "tuple"),none,(.seq #[] 0),#[]⟩)
  :: (nat_lit 169,⟨(.type "code"),none,(.fields #[(.str (S "together") 393),(.str (S "together") 394),(.str (S "/claim/cut.py") 395),(.int 92 0),(.int 2 0),(.int 0 0),(.int 0 0),(.int 3 0),(.ref 164),(.bool true),(.int 181 0),(.ref 165),.none,(.ref 166),(.ref 167),(.ref 168),(.int 401 0),(.int 92 0),(.str (S "/claim/cut.py") 402)]),#[]⟩)
  :: (nat_lit 170,⟨(.type "function"),none,(.func ⟨(S "together"),(S "together"),(L2.defArgs (W05.top 21)),.stmts (L2.defBody (W05.top 21)),(L2.defScope (W05.top 21)),3,[],.none,.none,.none,(.str (S "wheelrow.sums") 359),none,(.ref 169),.none,0⟩),#[]⟩)
  :: (nat_lit 171,⟨(.type "tuple"),none,(.seq #[] 0),#[]⟩)
  :: (nat_lit 174,⟨(.type "code"),none,(.fields #[(.str (S "picked") 404),(.str (S "picked") 405),(.str (S "/claim/cut.py") 406),(.int 99 0),(.int 2 0),(.int 0 0),(.int 0 0),(.int 3 0),(.ref 171),(.bool true),(.int 181 0),(.ref 172),.none,.none,.none,(.ref 173),(.int 407 0),(.int 99 0),(.str (S "/claim/cut.py") 408)]),#[]⟩)
  :: (nat_lit 175,⟨(.type "function"),none,(.func ⟨(S "picked"),(S "picked"),(L2.defArgs (W05.top 22)),.stmts (L2.defBody (W05.top 22)),(L2.defScope (W05.top 22)),3,[],.none,.none,.none,(.str (S "wheelrow.sums") 359),none,(.ref 174),.none,0⟩),#[]⟩)
  :: (nat_lit 176,⟨(.type "tuple"),none,(.seq #[] 0),#[]⟩)
  :: (nat_lit 178,⟨(.type "tuple"),none,(.seq #[(.str (S "gains") 413),(.str (S "wanted") 414),(.str (S "prime") 415),(.str (S "reached") 416),(.str (S "changed") 417),(.str (S "total") 418),(.str (S "place") 419)] 0),#[]⟩)
  :: (nat_lit 179,⟨(.type "tuple"),none,(.seq #[] 0),#[]⟩)
  :: (nat_lit 181,⟨(.type "code"),none,(.fields #[(.str (S "changes") 410),(.str (S "changes") 411),(.str (S "/claim/cut.py") 412),(.int 109 0),(.int 3 0),(.int 0 0),(.int 0 0),(.int 3 0),(.ref 176),(.bool true),(.int 181 0),(.ref 177),.none,(.ref 178),(.ref 179),(.ref 180),(.int 420 0),(.int 109 0),(.str (S "/claim/cut.py") 421)]),#[]⟩)
  :: (nat_lit 182,⟨(.type "function"),none,(.func ⟨(S "changes"),(S "changes"),(L2.defArgs (W05.top 23)),.stmts (L2.defBody (W05.top 23)),(L2.defScope (W05.top 23)),3,[],.none,.none,.none,(.str (S "wheelrow.sums") 359),none,(.ref 181),.none,0⟩),#[]⟩)
  :: (nat_lit 183,⟨(.type "tuple"),none,(.seq #[] 0),#[]⟩)
  :: (nat_lit 185,⟨(.type "tuple"),none,(.seq #[(.str (S "gains") 426),(.str (S "wanted") 427),(.str (S "prime") 428),(.str (S "reached") 429),(.str (S "place") 430)] 0),#[]⟩)
  :: (nat_lit 186,⟨(.type "tuple"),none,(.seq #[] 0),#[]⟩)
  :: (nat_lit 188,⟨(.type "code"),none,(.fields #[(.str (S "reached_sums") 423),(.str (S "reached_sums") 424),(.str (S "/claim/cut.py") 425),(.int 118 0),(.int 3 0),(.int 0 0),(.int 0 0),(.int 3 0),(.ref 183),(.bool true),(.int 181 0),(.ref 184),.none,(.ref 185),(.ref 186),(.ref 187),(.int 431 0),(.int 118 0),(.str (S "/claim/cut.py") 432)]),#[]⟩)
  :: (nat_lit 189,⟨(.type "function"),none,(.func ⟨(S "reached_sums"),(S "reached_sums"),(L2.defArgs (W05.top 24)),.stmts (L2.defBody (W05.top 24)),(L2.defScope (W05.top 24)),3,[],.none,.none,.none,(.str (S "wheelrow.sums") 359),none,(.ref 188),.none,0⟩),#[]⟩)
  :: (nat_lit 190,⟨(.type "tuple"),none,(.seq #[] 0),#[]⟩)
  :: (nat_lit 192,⟨(.type "tuple"),none,(.seq #[(.str (S "reached") 437),(.str (S "gain") 438),(.str (S "wanted") 439),(.str (S "prime") 440),(.str (S "inside") 441),(.str (S "outside") 442),(.str (S "middle") 443)] 0),#[]⟩)
  :: (nat_lit 193,⟨(.type "tuple"),none,(.seq #[] 0),#[]⟩)
  :: (nat_lit 195,⟨(.type "code"),none,(.fields #[(.str (S "new_sum") 434),(.str (S "new_sum") 435),(.str (S "/claim/cut.py") 436),(.int 125 0),(.int 4 0),(.int 0 0),(.int 0 0),(.int 3 0),(.ref 190),(.bool true),(.int 181 0),(.ref 191),.none,(.ref 192),(.ref 193),(.ref 194),(.int 444 0),(.int 125 0),(.str (S "/claim/cut.py") 445)]),#[]⟩)
  :: (nat_lit 196,⟨(.type "function"),none,(.func ⟨(S "new_sum"),(S "new_sum"),(L2.defArgs (W05.top 25)),.stmts (L2.defBody (W05.top 25)),(L2.defScope (W05.top 25)),3,[],.none,.none,.none,(.str (S "wheelrow.sums") 359),none,(.ref 195),.none,0⟩),#[]⟩)
  :: (nat_lit 197,⟨(.type "tuple"),none,(.seq #[] 0),#[]⟩)
  :: (nat_lit 199,⟨(.type "tuple"),none,(.seq #[(.str (S "_law_script") 452),(.str (S "_law_k") 453)] 0),#[]⟩)
  :: (nat_lit 200,⟨(.type "tuple"),none,(.seq #[] 0),#[]⟩)
  :: (nat_lit 202,⟨(.type "code"),none,(.fields #[(.str (S "_law_cell_at") 449),(.str (S "_law_cell_at") 450),(.str (S "/claim/cut.py") 451),(.int 136 0),(.int 2 0),(.int 0 0),(.int 0 0),(.int 3 0),(.ref 197),(.bool true),(.int 181 0),(.ref 198),.none,(.ref 199),(.ref 200),(.ref 201),(.int 454 0),(.int 136 0),(.str (S "/claim/cut.py") 455)]),#[]⟩)
  :: (nat_lit 203,⟨(.type "function"),none,(.func ⟨(S "_law_cell_at"),(S "_law_cell_at"),(L2.defArgs (W05.top 27)),.stmts (L2.defBody (W05.top 27)),(L2.defScope (W05.top 27)),3,[],.none,.none,.none,(.str (S "law_wheelrow_k05_sums") 447),none,(.ref 202),.none,0⟩),#[]⟩)
  :: (nat_lit 204,⟨(.type "tuple"),none,(.seq #[] 0),#[]⟩)
  :: (nat_lit 206,⟨(.type "tuple"),none,(.seq #[(.str (S "_law_cell") 460),(.str (S "_law_k") 461),(.str (S "_law_many") 462),(.str (S "_law_primes") 463)] 0),#[]⟩)
  :: (nat_lit 207,⟨(.type "tuple"),none,(.seq #[] 0),#[]⟩)
  :: (nat_lit 209,⟨(.type "code"),none,(.fields #[(.str (S "_law_draw") 457),(.str (S "_law_draw") 458),(.str (S "/claim/cut.py") 459),(.int 140 0),(.int 3 0),(.int 0 0),(.int 0 0),(.int 3 0),(.ref 204),(.bool true),(.int 181 0),(.ref 205),.none,(.ref 206),(.ref 207),(.ref 208),(.int 464 0),(.int 140 0),(.str (S "/claim/cut.py") 465)]),#[]⟩)
  :: (nat_lit 210,⟨(.type "function"),none,(.func ⟨(S "_law_draw"),(S "_law_draw"),(L2.defArgs (W05.top 28)),.stmts (L2.defBody (W05.top 28)),(L2.defScope (W05.top 28)),3,[],.none,.none,.none,(.str (S "law_wheelrow_k05_sums") 447),none,(.ref 209),.none,0⟩),#[]⟩)
  :: (nat_lit 211,⟨(.type "tuple"),none,(.seq #[] 0),#[]⟩)
  :: (nat_lit 213,⟨(.type "tuple"),none,(.seq #[(.str (S "_law_script") 470),(.str (S "_law_kind") 471),(.str (S "_law_by") 472),(.str (S "_law_most") 473),(.str (S "_law_found") 474),(.str (S "_law_k") 475),(.str (S "_law_number") 476)] 0),#[]⟩)
  :: (nat_lit 214,⟨(.type "tuple"),none,(.seq #[] 0),#[]⟩)
  :: (nat_lit 216,⟨(.type "code"),none,(.fields #[(.str (S "_law_row") 467),(.str (S "_law_row") 468),(.str (S "/claim/cut.py") 469),(.int 143 0),(.int 1 0),(.int 0 0),(.int 0 0),(.int 3 0),(.ref 211),(.bool true),(.int 181 0),(.ref 212),.none,(.ref 213),(.ref 214),(.ref 215),(.int 477 0),(.int 143 0),(.str (S "/claim/cut.py") 478)]),#[]⟩)
  :: (nat_lit 217,⟨(.type "function"),none,(.func ⟨(S "_law_row"),(S "_law_row"),(L2.defArgs (W05.top 29)),.stmts (L2.defBody (W05.top 29)),(L2.defScope (W05.top 29)),3,[],.none,.none,.none,(.str (S "law_wheelrow_k05_sums") 447),none,(.ref 216),.none,0⟩),#[]⟩)
  :: (nat_lit 225,⟨(.type "tuple"),none,(.seq #[] 0),#[]⟩)
  :: (nat_lit 227,⟨(.type "tuple"),none,(.seq #[(.str (S "_law_number") 491)] 0),#[]⟩)
  :: (nat_lit 228,⟨(.type "tuple"),none,(.seq #[] 0),#[]⟩)
  :: (nat_lit 230,⟨(.type "code"),none,(.fields #[(.str (S "_law_whole") 488),(.str (S "_law_whole") 489),(.str (S "/claim/cut.py") 490),(.int 158 0),(.int 1 0),(.int 0 0),(.int 0 0),(.int 3 0),(.ref 225),(.bool true),(.int 181 0),(.ref 226),.none,(.ref 227),(.ref 228),(.ref 229),(.int 492 0),(.int 158 0),(.str (S "/claim/cut.py") 493)]),#[]⟩)
  :: (nat_lit 231,⟨(.type "function"),none,(.func ⟨(S "_law_whole"),(S "_law_whole"),(L2.defArgs (W05.top 31)),.stmts (L2.defBody (W05.top 31)),(L2.defScope (W05.top 31)),3,[],.none,.none,.none,(.str (S "law_wheelrow_k05_sums") 447),none,(.ref 230),.none,0⟩),#[]⟩)
  :: (nat_lit 232,⟨(.type "tuple"),none,(.seq #[] 0),#[]⟩)
  :: (nat_lit 235,⟨(.type "code"),none,(.fields #[(.str (S "_law_numbers") 495),(.str (S "_law_numbers") 496),(.str (S "/claim/cut.py") 497),(.int 160 0),(.int 1 0),(.int 0 0),(.int 0 0),(.int 3 0),(.ref 232),(.bool true),(.int 181 0),(.ref 233),.none,.none,.none,(.ref 234),(.int 498 0),(.int 160 0),(.str (S "/claim/cut.py") 499)]),#[]⟩)
  :: (nat_lit 236,⟨(.type "function"),none,(.func ⟨(S "_law_numbers"),(S "_law_numbers"),(L2.defArgs (W05.top 32)),.stmts (L2.defBody (W05.top 32)),(L2.defScope (W05.top 32)),3,[],.none,.none,.none,(.str (S "law_wheelrow_k05_sums") 447),none,(.ref 235),.none,0⟩),#[]⟩)
  :: (nat_lit 237,⟨(.type "tuple"),none,(.seq #[] 0),#[]⟩)
  :: (nat_lit 239,⟨(.type "tuple"),none,(.seq #[(.str (S "_law_numbers_here") 504),(.str (S "_law_found") 505),(.str (S "_law_first") 506),(.str (S "_law_last") 507)] 0),#[]⟩)
  :: (nat_lit 240,⟨(.type "tuple"),none,(.seq #[] 0),#[]⟩)
  :: (nat_lit 242,⟨(.type "code"),none,(.fields #[(.str (S "_law_stretched") 501),(.str (S "_law_stretched") 502),(.str (S "/claim/cut.py") 503),(.int 162 0),(.int 2 0),(.int 0 0),(.int 0 0),(.int 3 0),(.ref 237),(.bool true),(.int 181 0),(.ref 238),.none,(.ref 239),(.ref 240),(.ref 241),(.int 508 0),(.int 162 0),(.str (S "/claim/cut.py") 509)]),#[]⟩)
  :: (nat_lit 243,⟨(.type "function"),none,(.func ⟨(S "_law_stretched"),(S "_law_stretched"),(L2.defArgs (W05.top 33)),.stmts (L2.defBody (W05.top 33)),(L2.defScope (W05.top 33)),3,[],.none,.none,.none,(.str (S "law_wheelrow_k05_sums") 447),none,(.ref 242),.none,0⟩),#[]⟩)
  :: (nat_lit 244,⟨(.type "tuple"),none,(.seq #[] 0),#[]⟩)
  :: (nat_lit 247,⟨(.type "code"),none,(.fields #[(.str (S "_law_picked") 511),(.str (S "_law_picked") 512),(.str (S "/claim/cut.py") 513),(.int 167 0),(.int 2 0),(.int 0 0),(.int 0 0),(.int 3 0),(.ref 244),(.bool true),(.int 181 0),(.ref 245),.none,.none,.none,(.ref 246),(.int 514 0),(.int 167 0),(.str (S "/claim/cut.py") 515)]),#[]⟩)
  :: (nat_lit 248,⟨(.type "function"),none,(.func ⟨(S "_law_picked"),(S "_law_picked"),(L2.defArgs (W05.top 34)),.stmts (L2.defBody (W05.top 34)),(L2.defScope (W05.top 34)),3,[],.none,.none,.none,(.str (S "law_wheelrow_k05_sums") 447),none,(.ref 247),.none,0⟩),#[]⟩)
  :: (nat_lit 249,⟨(.type "tuple"),none,(.seq #[] 0),#[]⟩)
  :: (nat_lit 251,⟨(.type "tuple"),none,(.seq #[(.str (S "_law_ask") 520),(.str (S "_law_numbers_here") 521),(.str (S "error") 522),(.str (S "_law_others") 523)] 0),#[]⟩)
  :: (nat_lit 252,⟨(.type "tuple"),none,(.seq #[] 0),#[]⟩)
  :: (nat_lit 254,⟨(.type "code"),none,(.fields #[(.str (S "_law_bad_count") 517),(.str (S "_law_bad_count") 518),(.str (S "/claim/cut.py") 519),(.int 176 0),(.int 2 0),(.int 0 0),(.int 0 0),(.int 3 0),(.ref 249),(.bool true),(.int 181 0),(.ref 250),.none,(.ref 251),(.ref 252),(.ref 253),(.int 524 0),(.int 176 0),(.str (S "/claim/cut.py") 525)]),#[]⟩)
  :: (nat_lit 255,⟨(.type "function"),none,(.func ⟨(S "_law_bad_count"),(S "_law_bad_count"),(L2.defArgs (W05.top 35)),.stmts (L2.defBody (W05.top 35)),(L2.defScope (W05.top 35)),3,[],.none,.none,.none,(.str (S "law_wheelrow_k05_sums") 447),none,(.ref 254),.none,0⟩),#[]⟩)
  :: (nat_lit 256,⟨(.type "tuple"),none,(.seq #[] 0),#[]⟩)
  :: (nat_lit 258,⟨(.type "tuple"),none,(.seq #[(.str (S "_law_script") 530),(.str (S "_law_numbers_here") 531),(.str (S "_law_odd") 532),(.str (S "_law_some") 533),(.str (S "_law_handed") 534),(.str (S "_law_found") 535)] 0),#[]⟩)
  :: (nat_lit 259,⟨(.type "tuple"),none,(.seq #[] 0),#[]⟩)
  :: (nat_lit 261,⟨(.type "code"),none,(.fields #[(.str (S "law") 527),(.str (S "law") 528),(.str (S "/claim/cut.py") 529),(.int 184 0),(.int 1 0),(.int 0 0),(.int 0 0),(.int 3 0),(.ref 256),(.bool true),(.int 181 0),(.ref 257),.none,(.ref 258),(.ref 259),(.ref 260),(.int 536 0),(.int 184 0),(.str (S "/claim/cut.py") 537)]),#[]⟩)
  :: (nat_lit 262,⟨(.type "function"),none,(.func ⟨(S "law"),(S "law"),(L2.defArgs (W05.top 36)),.stmts (L2.defBody (W05.top 36)),(L2.defScope (W05.top 36)),3,[],.none,.none,.none,(.str (S "law_wheelrow_k05_sums") 447),none,(.ref 261),.none,0⟩),#[]⟩) :: []
abbrev as:List Addr:=(nat_lit 2) :: (nat_lit 3) :: (nat_lit 4) :: (nat_lit 15) :: (nat_lit 22) :: (nat_lit 23) :: (nat_lit 24) :: (nat_lit 25) :: (nat_lit 28) :: (nat_lit 35) :: (nat_lit 36) :: (nat_lit 37) :: (nat_lit 40) :: (nat_lit 47) :: (nat_lit 48) :: (nat_lit 49) :: (nat_lit 52) :: (nat_lit 59) :: (nat_lit 60) :: (nat_lit 61) :: (nat_lit 64) :: (nat_lit 71) :: (nat_lit 72) :: (nat_lit 73) :: (nat_lit 76) :: (nat_lit 83) :: (nat_lit 84) :: (nat_lit 85) :: (nat_lit 88) :: (nat_lit 95) :: (nat_lit 96) :: (nat_lit 97) :: (nat_lit 100) :: (nat_lit 102) :: (nat_lit 103) :: (nat_lit 105) :: (nat_lit 106) :: (nat_lit 107) :: (nat_lit 109) :: (nat_lit 110) :: (nat_lit 112) :: (nat_lit 113) :: (nat_lit 114) :: (nat_lit 117) :: (nat_lit 118) :: (nat_lit 119) :: (nat_lit 121) :: (nat_lit 122) :: (nat_lit 124) :: (nat_lit 125) :: (nat_lit 126) :: (nat_lit 128) :: (nat_lit 129) :: (nat_lit 131) :: (nat_lit 132) :: (nat_lit 133) :: (nat_lit 135) :: (nat_lit 136) :: (nat_lit 138) :: (nat_lit 139) :: (nat_lit 140) :: (nat_lit 142) :: (nat_lit 143) :: (nat_lit 145) :: (nat_lit 146) :: (nat_lit 147) :: (nat_lit 150) :: (nat_lit 151) :: (nat_lit 152) :: (nat_lit 154) :: (nat_lit 155) :: (nat_lit 157) :: (nat_lit 158) :: (nat_lit 159) :: (nat_lit 162) :: (nat_lit 163) :: (nat_lit 164) :: (nat_lit 166) :: (nat_lit 167) :: (nat_lit 169) :: (nat_lit 170) :: (nat_lit 171) :: (nat_lit 174) :: (nat_lit 175) :: (nat_lit 176) :: (nat_lit 178) :: (nat_lit 179) :: (nat_lit 181) :: (nat_lit 182) :: (nat_lit 183) :: (nat_lit 185) :: (nat_lit 186) :: (nat_lit 188) :: (nat_lit 189) :: (nat_lit 190) :: (nat_lit 192) :: (nat_lit 193) :: (nat_lit 195) :: (nat_lit 196) :: (nat_lit 197) :: (nat_lit 199) :: (nat_lit 200) :: (nat_lit 202) :: (nat_lit 203) :: (nat_lit 204) :: (nat_lit 206) :: (nat_lit 207) :: (nat_lit 209) :: (nat_lit 210) :: (nat_lit 211) :: (nat_lit 213) :: (nat_lit 214) :: (nat_lit 216) :: (nat_lit 217) :: (nat_lit 225) :: (nat_lit 227) :: (nat_lit 228) :: (nat_lit 230) :: (nat_lit 231) :: (nat_lit 232) :: (nat_lit 235) :: (nat_lit 236) :: (nat_lit 237) :: (nat_lit 239) :: (nat_lit 240) :: (nat_lit 242) :: (nat_lit 243) :: (nat_lit 244) :: (nat_lit 247) :: (nat_lit 248) :: (nat_lit 249) :: (nat_lit 251) :: (nat_lit 252) :: (nat_lit 254) :: (nat_lit 255) :: (nat_lit 256) :: (nat_lit 258) :: (nat_lit 259) :: (nat_lit 261) :: (nat_lit 262) :: []
abbrev K2 (P:Params):Frag:=(nat_lit 172,⟨.none,none,(.fields #[]),#[]⟩) :: K P
abbrev as2:List Addr:=(nat_lit 172) :: as
theorem as_eq2 (P:Params):as2 = (K2 P).map (·.1):=by kernel_rfl
theorem hcd (P:Params):∃ oc fs,(K P).lookup (nat_lit 174) = some oc ∧ oc.cls = .type "code" ∧ oc.data = .fields fs ∧ fs[11]? = some (.ref (nat_lit 172)):=⟨⟨(.type "code"),none,(.fields #[(.str (S "picked") 404),(.str (S "picked") 405),(.str (S "/claim/cut.py") 406),(.int 99 0),(.int 2 0),(.int 0 0),(.int 0 0),(.int 3 0),(.ref 171),(.bool true),(.int 181 0),(.ref 172),.none,.none,.none,(.ref 173),(.int 407 0),(.int 99 0),(.str (S "/claim/cut.py") 408)]),#[]⟩,_,by kernel_rfl,rfl,rfl,rfl⟩
theorem noT (P:Params):(K P).lookup (nat_lit 172) = none:=by kernel_rfl
abbrev H:Hook:=kHook K2 as2 as_eq2
abbrev rr:RowW:=PySem.Challenge.rw_wheelrow_k05_sums.row.toRowW
abbrev Q:Program:=viewOf pq
abbrev XtOf (q:Program) (s:Shared):Bool:=xlAt q [] s && recOk (RowW.records rr) s
set_option maxRecDepth 100000 in
theorem look1 (w:World):(fun os=>staticsOk (PySem.W.Fast.tw5923862056798008813 p'.main.body) (boot_heap w.params) (hf w.params) && namesBound p' (hf w.params) && gensDone ⟨hf w.params,⟨[]⟩,{},539,os⟩ && laidKept (boot_heap w.params) (hf w.params)) = fun _=>true:=by kernel_rfl
set_option maxRecDepth 100000 in
theorem look2 (w:World):(fun os=>PySem.W.Fast.tw4187177175401517315 (viewOf p') [] (PySem.W.Fast.tw5923862056798008813 p'.main.body) (XtOf (viewOf p')) true ⟨hf w.params,⟨[]⟩,{},539,os⟩) = fun _=>openGood (viewOf p') []:=by kernel_rfl
set_option maxRecDepth 100000 in
theorem look3 (w:World):as2.map (hf w.params).get? = (K2 w.params).map fun p=>some p.2:=by kernel_rfl
set_option maxRecDepth 100000 in
theorem size (w:World):((boot_heap w.params).isNs mainGlobals && (⟨[]⟩:Array GenState).size == 0,(boot_heap w.params).objs.size,(boot_heap w.params).nsMap mainGlobals "__annotations__") = (true,11,ann):=by kernel_rfl
set_option maxRecDepth 100000 in
theorem looks (w:World):(fun os=>((staticsOk (importedModules p'.main.body) (boot_heap w.params) (hf w.params) && namesBound p' (hf w.params) && gensDone ⟨hf w.params,⟨[]⟩,{},539,os⟩ && laidKept (boot_heap w.params) (hf w.params)),openSeen (viewOf p') [] (importedModules p'.main.body) (XtOf (viewOf p')) true ⟨hf w.params,⟨[]⟩,{},539,os⟩,H.obs ⟨hf w.params,⟨[]⟩,{},539,os⟩)) = fun _=>(true,openGood (viewOf p') [],H.val w):=by
  have a:=look1 w
  have b:=look2 w
  rw [← PySem.W.Fast.te5923862056798008813] at a
  rw [← PySem.W.Fast.te4187177175401517315,← PySem.W.Fast.te5923862056798008813] at b
  funext os
  exact Prod.ext (congrFun a os) (Prod.ext (congrFun b os) (look3 w))
set_option maxRecDepth 100000 in
theorem left':LeftO p' (viewOf p') [] (XtOf (viewOf p')) H.obs H.val 4676 true:=LeftO.of_pieces (boot_open (by kernel_rfl) (by kernel_rfl) (fun s=>by kernel_rfl)) size run (by kernel_rfl) looks
theorem left:LeftO pq Q [] (XtOf Q) H.obs H.val 4676 true:=by
  have h:=left'
  rw [← pq_eq] at h
  exact h
end
end H05
set_option Elab.async false
set_option linter.all false
set_option maxRecDepth 100000
namespace W05
open PySem L2
set_option maxHeartbeats 4000000 in
theorem all_mk {l:PySem.W.OpenLaw} {w:World} {K:PySem.W.Frag} {h:Heap} {mg:Str → Option Value} {fa:Addr}
 {xgM xfO:Option Addr} {xg2:Array (Option Value)} {xgJ xgs xgb xgS xf1 xf4:Value}
 {xhX:Addr}
 {xe7 xev:Option Addr} {xfu:Array (Option Value)} {xe3 xeV xeP xff xeF xeK:Value}
 {xgi:Addr}
 {xcU xcg:Option Addr} {xda:Array (Option Value)} {xcR xcF xcz xc1 xcp xct:Value}
 {xdH:Addr}
 {xe6 xeu:Option Addr} {xft:Array (Option Value)} {xe2 xeU xeO xfe xeE xeJ:Value}
 {xgh:Addr}
 {xaw xao:Option Addr} {xaB:Array (Option Value)} {xav xau xas xay xaq xar:Value}
 {xaS:Addr}
 {xcV xch:Option Addr} {xdb:Array (Option Value)} {xcS xcG xcA xc2 xcq xcu:Value}
 {xdI:Addr}
 {xip xhw:Option Addr} {xiK:Array (Option Value)} {xil xh5 xhV xiy xhK xhO:Value}
 {xjq:Addr}
 {xjL xi3:Option Addr} {xjX:Array (Option Value)} {xjJ xjt xjl xjP xjd xjf:Value}
 {xkb:Addr}
 {xe8 xew:Option Addr} {xfv:Array (Option Value)} {xe4 xeW xeQ xfg xeG xeL:Value}
 {xgj:Addr}
 {xin xhu:Option Addr} {xiI:Array (Option Value)} {xij xh3 xhT xiw xhI xhM:Value}
 {xjo:Addr}
 {xgN xfP:Option Addr} {xg3:Array (Option Value)} {xgK xgt xgc xgT xf2 xf5:Value}
 {xhY:Addr}
 {xjM xi4:Option Addr} {xjY:Array (Option Value)} {xjK xju xjm xjQ xje xjg:Value}
 {xkc:Addr}
 {xim xht:Option Addr} {xiH:Array (Option Value)} {xii xh2 xhS xiv xhH xhL:Value}
 {xjn:Addr}
 {xbV xbz:Option Addr} {xb5:Array (Option Value)} {xbS xbP xbL xbZ xbF xbI:Value}
 {xcD:Addr}
 {xio xhv:Option Addr} {xiJ:Array (Option Value)} {xik xh4 xhU xix xhJ xhN:Value}
 {xjp:Addr}
 {xbT xbx:Option Addr} {xb3:Array (Option Value)} {xbQ xbN xbJ xbX xbD xbG:Value}
 {xcB:Addr}
 {xe5 xet:Option Addr} {xfs:Array (Option Value)} {xe1 xeT xeN xfd xeD xeI:Value}
 {xgg:Addr}
 {xgL xfN:Option Addr} {xg1:Array (Option Value)} {xgI xgr xga xgR xf0 xf3:Value}
 {xhW:Addr}
 {xd2 xdq:Option Addr} {xec:Array (Option Value)} {xd1 xdQ xdC xd3 xdx xdy:Value}
 {xeR:Addr}
 {xbU xby:Option Addr} {xb4:Array (Option Value)} {xbR xbO xbK xbY xbE xbH:Value}
 {xcC:Addr}
 {xa2 xaH:Option Addr} {xbb:Array (Option Value)} {xa0 xaV xaR xa4 xaM xaO:Value}
 {xbo:Addr}
 {xcT xcf:Option Addr} {xc9:Array (Option Value)} {xcQ xcE xcy xc0 xco xcs:Value}
 {xdG:Addr}
 {xa1 xaG:Option Addr} {xba:Array (Option Value)} {xaZ xaU xaQ xa3 xaL xaN:Value}
 {xbn:Addr}
 {xks xkl:Option Addr} {xkw:Array (Option Value)} {xkr xkq xkp xku xkn xko:Value}
 {f_law:Addr}
 {xfz:Addr}
 {xhh:Addr}
 {xeo:Addr}
 {xhi:Addr}
 {xiP:Addr}
 {xhg:Addr}
 {xiQ:Addr}
 {xds xdt xdf:List Value} {xer:Addr} {xd0 xfh:Str} {xbM xdp:Bool} {xed:List Str} {xcr:Option Bool} {xdD:Option Addr} {xdL xdM xdN xdO xdP:Option Value}
 {xfT xfU xfy:List Value} {xhp:Addr} {xgH xiz:Str} {xdJ xfM:Bool} {xg4:List Str} {xeH:Option Bool} {xgd:Option Addr} {xgm xgn xgo xgp xgq:Option Value}
 {xbc:Tok}
 {lc_picked lt_picked lb_picked:Addr} {lod_picked:Option Addr} {lvs_picked:Array Value} {lsl_picked lbs_picked:Array (Option Value)} {lfile_picked:Str} {lflags_picked ltext_picked:Int} {ltf_picked ltg_picked ltt_picked:Tok} {linF_picked:Bool}
 (KX:K.In h) (G:h.Ns mainGlobals mg) (hfa:mg "law" = some (.ref fa))
 (xhr:PySem.W.nsIn K mainGlobals "is_whole" = some (some (.ref xhX)))
 (xia:K.lookup xhX = some ⟨xgJ,xgM,.func (PySem.W.fnOf "is_whole" "is_whole" (defArgs xiB) (defBody xiB) (defScope xiB) .none xgs xgb xgS xfO xf1 xf4),xg2⟩)
 (xhF:PySem.W.codeIn K xf1 "is_whole" = true)
 (xh7:PySem.W.keepIn K (.ref xhX) = true)
 (xfK:PySem.W.nsIn K mainGlobals "is_number" = some (some (.ref xgi)))
 (xgA:K.lookup xgi = some ⟨xe3,xe7,.func (PySem.W.fnOf "is_number" "is_number" (defArgs xgW) (defBody xgW) (defScope xgW) .none xeV xeP xff xev xeF xeK),xfu⟩)
 (xfY:PySem.W.codeIn K xeF "is_number" = true)
 (xgw:PySem.W.keepIn K (.ref xgi) = true)
 (xdn:PySem.W.nsIn K mainGlobals "are_numbers" = some (some (.ref xdH)))
 (xdV:K.lookup xdH = some ⟨xcR,xcU,.func (PySem.W.fnOf "are_numbers" "are_numbers" (defArgs xd5) (defBody xd5) (defScope xd5) .none xcF xcz xc1 xcg xcp xct),xda⟩)
 (xdv:PySem.W.codeIn K xcp "are_numbers" = true)
 (xdS:PySem.W.keepIn K (.ref xdH) = true)
 (xfJ:PySem.W.nsIn K mainGlobals "goes_into" = some (some (.ref xgh)))
 (xgz:K.lookup xgh = some ⟨xe2,xe6,.func (PySem.W.fnOf "goes_into" "goes_into" (defArgs xgV) (defBody xgV) (defScope xgV) .none xeU xeO xfe xeu xeE xeJ),xft⟩)
 (xfX:PySem.W.codeIn K xeE "goes_into" = true)
 (xgv:PySem.W.keepIn K (.ref xgh) = true)
 (xaF:PySem.W.nsIn K mainGlobals "part_with_times" = some (some (.ref xaS)))
 (xaX:K.lookup xaS = some ⟨xav,xaw,.func (PySem.W.fnOf "part_with_times" "part_with_times" (defArgs xa5) (defBody xa5) (defScope xa5) .none xau xas xay xao xaq xar),xaB⟩)
 (xaK:PySem.W.codeIn K xaq "part_with_times" = true)
 (xaW:PySem.W.keepIn K (.ref xaS) = true)
 (xdo:PySem.W.nsIn K mainGlobals "turned_back" = some (some (.ref xdI)))
 (xdW:K.lookup xdI = some ⟨xcS,xcV,.func (PySem.W.fnOf "turned_back" "turned_back" (defArgs xd6) (defBody xd6) (defScope xd6) .none xcG xcA xc2 xch xcq xcu),xdb⟩)
 (xdw:PySem.W.codeIn K xcq "turned_back" = true)
 (xdT:PySem.W.keepIn K (.ref xdI) = true)
 (xi2:PySem.W.nsIn K mainGlobals "stretch" = some (some (.ref xjq)))
 (xjC:K.lookup xjq = some ⟨xil,xip,.func (PySem.W.fnOf "stretch" "stretch" (defArgs xjU) (defBody xjU) (defScope xjU) .none xh5 xhV xiy xhw xhK xhO),xiK⟩)
 (xjc:PySem.W.codeIn K xhK "stretch" = true)
 (xjy:PySem.W.keepIn K (.ref xjq) = true)
 (xj5:PySem.W.nsIn K mainGlobals "chosen" = some (some (.ref xkb)))
 (xkf:K.lookup xkb = some ⟨xjJ,xjL,.func (PySem.W.fnOf "chosen" "chosen" (defArgs xkj) (defBody xkj) (defScope xkj) .none xjt xjl xjP xi3 xjd xjf),xjX⟩)
 (xj7:PySem.W.codeIn K xjd "chosen" = true)
 (xkd:PySem.W.keepIn K (.ref xkb) = true)
 (xfL:PySem.W.nsIn K mainGlobals "primes_of" = some (some (.ref xgj)))
 (xgB:K.lookup xgj = some ⟨xe4,xe8,.func (PySem.W.fnOf "primes_of" "primes_of" (defArgs xgX) (defBody xgX) (defScope xgX) .none xeW xeQ xfg xew xeG xeL),xfv⟩)
 (xfZ:PySem.W.codeIn K xeG "primes_of" = true)
 (xgx:PySem.W.keepIn K (.ref xgj) = true)
 (xi0:PySem.W.nsIn K mainGlobals "grouped" = some (some (.ref xjo)))
 (xjA:K.lookup xjo = some ⟨xij,xin,.func (PySem.W.fnOf "grouped" "grouped" (defArgs xjS) (defBody xjS) (defScope xjS) .none xh3 xhT xiw xhu xhI xhM),xiI⟩)
 (xja:PySem.W.codeIn K xhI "grouped" = true)
 (xjw:PySem.W.keepIn K (.ref xjo) = true)
 (xhs:PySem.W.nsIn K mainGlobals "together" = some (some (.ref xhY)))
 (xib:K.lookup xhY = some ⟨xgK,xgN,.func (PySem.W.fnOf "together" "together" (defArgs xiC) (defBody xiC) (defScope xiC) .none xgt xgc xgT xfP xf2 xf5),xg3⟩)
 (xhG:PySem.W.codeIn K xf2 "together" = true)
 (xh8:PySem.W.keepIn K (.ref xhY) = true)
 (xj6:PySem.W.nsIn K mainGlobals "picked" = some (some (.ref xkc)))
 (xkg:K.lookup xkc = some ⟨xjK,xjM,.func (PySem.W.fnOf "picked" "picked" (defArgs xkk) (defBody xkk) (defScope xkk) .none xju xjm xjQ xi4 xje xjg),xjY⟩)
 (xj8:PySem.W.codeIn K xje "picked" = true)
 (xke:PySem.W.keepIn K (.ref xkc) = true)
 (xiZ:PySem.W.nsIn K mainGlobals "changes" = some (some (.ref xjn)))
 (xjz:K.lookup xjn = some ⟨xii,xim,.func (PySem.W.fnOf "changes" "changes" (defArgs xjR) (defBody xjR) (defScope xjR) .none xh2 xhS xiv xht xhH xhL),xiH⟩)
 (xi9:PySem.W.codeIn K xhH "changes" = true)
 (xjv:PySem.W.keepIn K (.ref xjn) = true)
 (xce:PySem.W.nsIn K mainGlobals "reached_sums" = some (some (.ref xcD)))
 (xcM:K.lookup xcD = some ⟨xbS,xbV,.func (PySem.W.fnOf "reached_sums" "reached_sums" (defArgs xc5) (defBody xc5) (defScope xc5) .none xbP xbL xbZ xbz xbF xbI),xb5⟩)
 (xcn:PySem.W.codeIn K xbF "reached_sums" = true)
 (xcJ:PySem.W.keepIn K (.ref xcD) = true)
 (xi1:PySem.W.nsIn K mainGlobals "new_sum" = some (some (.ref xjp)))
 (xjB:K.lookup xjp = some ⟨xik,xio,.func (PySem.W.fnOf "new_sum" "new_sum" (defArgs xjT) (defBody xjT) (defScope xjT) .none xh4 xhU xix xhv xhJ xhN),xiJ⟩)
 (xjb:PySem.W.codeIn K xhJ "new_sum" = true)
 (xjx:PySem.W.keepIn K (.ref xjp) = true)
 (xcc:PySem.W.nsIn K mainGlobals "_law_cell_at" = some (some (.ref xcB)))
 (xcK:K.lookup xcB = some ⟨xbQ,xbT,.func (PySem.W.fnOf "_law_cell_at" "_law_cell_at" (defArgs xc3) (defBody xc3) (defScope xc3) .none xbN xbJ xbX xbx xbD xbG),xb3⟩)
 (xcl:PySem.W.codeIn K xbD "_law_cell_at" = true)
 (xcH:PySem.W.keepIn K (.ref xcB) = true)
 (xfI:PySem.W.nsIn K mainGlobals "_law_draw" = some (some (.ref xgg)))
 (xgy:K.lookup xgg = some ⟨xe1,xe5,.func (PySem.W.fnOf "_law_draw" "_law_draw" (defArgs xgU) (defBody xgU) (defScope xgU) .none xeT xeN xfd xet xeD xeI),xfs⟩)
 (xfW:PySem.W.codeIn K xeD "_law_draw" = true)
 (xgu:PySem.W.keepIn K (.ref xgg) = true)
 (xhq:PySem.W.nsIn K mainGlobals "_law_row" = some (some (.ref xhW)))
 (xh9:K.lookup xhW = some ⟨xgI,xgL,.func (PySem.W.fnOf "_law_row" "_law_row" (defArgs xiA) (defBody xiA) (defScope xiA) .none xgr xga xgR xfN xf0 xf3),xg1⟩)
 (xhE:PySem.W.codeIn K xf0 "_law_row" = true)
 (xh6:PySem.W.keepIn K (.ref xhW) = true)
 (xes:PySem.W.nsIn K mainGlobals "_law_whole" = some (some (.ref xeR)))
 (xeY:K.lookup xeR = some ⟨xd1,xd2,.func (PySem.W.fnOf "_law_whole" "_law_whole" (defArgs xfi) (defBody xfi) (defScope xfi) .none xdQ xdC xd3 xdq xdx xdy),xec⟩)
 (xeC:PySem.W.codeIn K xdx "_law_whole" = true)
 (xeX:PySem.W.keepIn K (.ref xeR) = true)
 (xcd:PySem.W.nsIn K mainGlobals "_law_numbers" = some (some (.ref xcC)))
 (xcL:K.lookup xcC = some ⟨xbR,xbU,.func (PySem.W.fnOf "_law_numbers" "_law_numbers" (defArgs xc4) (defBody xc4) (defScope xc4) .none xbO xbK xbY xby xbE xbH),xb4⟩)
 (xcm:PySem.W.codeIn K xbE "_law_numbers" = true)
 (xcI:PySem.W.keepIn K (.ref xcC) = true)
 (xbi:PySem.W.nsIn K mainGlobals "_law_stretched" = some (some (.ref xbo)))
 (xbs:K.lookup xbo = some ⟨xa0,xa2,.func (PySem.W.fnOf "_law_stretched" "_law_stretched" (defArgs xbw) (defBody xbw) (defScope xbw) .none xaV xaR xa4 xaH xaM xaO),xbb⟩)
 (xbk:PySem.W.codeIn K xaM "_law_stretched" = true)
 (xbq:PySem.W.keepIn K (.ref xbo) = true)
 (xdm:PySem.W.nsIn K mainGlobals "_law_picked" = some (some (.ref xdG)))
 (xdU:K.lookup xdG = some ⟨xcQ,xcT,.func (PySem.W.fnOf "_law_picked" "_law_picked" (defArgs xd4) (defBody xd4) (defScope xd4) .none xcE xcy xc0 xcf xco xcs),xc9⟩)
 (xdu:PySem.W.codeIn K xco "_law_picked" = true)
 (xdR:PySem.W.keepIn K (.ref xdG) = true)
 (xbh:PySem.W.nsIn K mainGlobals "_law_bad_count" = some (some (.ref xbn)))
 (xbr:K.lookup xbn = some ⟨xaZ,xa1,.func (PySem.W.fnOf "_law_bad_count" "_law_bad_count" (defArgs xbv) (defBody xbv) (defScope xbv) .none xaU xaQ xa3 xaG xaL xaN),xba⟩)
 (xbj:PySem.W.codeIn K xaL "_law_bad_count" = true)
 (xbp:PySem.W.keepIn K (.ref xbn) = true)
 (a_law:PySem.W.nsIn K mainGlobals "law" = some (some (.ref f_law)))
 (l_law:K.lookup f_law = some ⟨xkr,xks,.func (PySem.W.fnOf "law" "law" (defArgs s_law) (defBody s_law) (defScope s_law) .none xkq xkp xku xkl xkn xko),xkw⟩)
 (c_law:PySem.W.codeIn K xkn "law" = true)
 (k_law:PySem.W.keepIn K (.ref f_law) = true)
 (xgk:PySem.W.nsIn K mainGlobals "RestError" = some (some (.ref xfz)))
 (xh0:PySem.W.nsIn K mainGlobals "BadRests" = some (some (.ref xhh)))
 (xeS:PySem.W.nsIn K mainGlobals "BadNumbers" = some (some (.ref xeo)))
 (xh1:PySem.W.nsIn K mainGlobals "BadRound" = some (some (.ref xhi)))
 (xjr:PySem.W.nsIn K mainGlobals "BadRest" = some (some (.ref xiP)))
 (xhZ:PySem.W.nsIn K mainGlobals "BadCount" = some (some (.ref xhg)))
 (xjs:PySem.W.nsIn K mainGlobals "BadText" = some (some (.ref xiQ)))
 (xej:K.lookup xeo = some (excClassObj xd0 xfh xeo xer xdt xds xbM xed xdf xdp xcr xdD xdL xdM xdN xdO xdP "ValueError.__new__"))
 (xek:PySem.W.nsOkIn K xer = true)
 (xei:PySem.W.nsIn K xer "__init__" = some none)
 (xen:PySem.W.tailIn K veM xds = true)
 (xeh:PySem.W.findIn K (.ref xeo) "__getattribute__" = some (some (.builtin "BaseException.__getattribute__")))
 (xem:PySem.W.findIn K (.ref xeo) "__getattr__" = some none)
 (xeg:PySem.W.findIn K (.ref xeo) "__class__" = some (some (.builtin "object.__class__")))
 (xel:PySem.W.mroIn K xeo (.type "object") = some true)
 (xee:PySem.W.subIn K (.ref xeo) (.type "BaseException") = some true)
 (xef:(PySem.W.clsIn K xeo).isSome = true)
 (xab:PySem.W.exmOne K (.ref xeo) (.ref xfz) = some true)
 (xae:PySem.W.kitOne K (.ref xeo) (.ref xhh) = some false)
 (xaa:PySem.W.kitOne K (.ref xeo) (.ref xeo) = some true)
 (xaf:PySem.W.kitOne K (.ref xeo) (.ref xhi) = some false)
 (xag:PySem.W.kitOne K (.ref xeo) (.ref xiP) = some false)
 (xad:PySem.W.kitOne K (.ref xeo) (.ref xhg) = some false)
 (xah:PySem.W.kitOne K (.ref xeo) (.ref xiQ) = some false)
 (xdK:PySem.W.kitOne K (.ref xeo) (.type "ValueError") = some true)
 (xhb:K.lookup xhg = some (excClassObj xgH xiz xhg xhp xfU xfT xdJ xg4 xfy xfM xeH xgd xgm xgn xgo xgp xgq "ValueError.__new__"))
 (xhc:PySem.W.nsOkIn K xhp = true)
 (xha:PySem.W.nsIn K xhp "__init__" = some none)
 (xhf:PySem.W.tailIn K veM xfT = true)
 (xg9:PySem.W.findIn K (.ref xhg) "__getattribute__" = some (some (.builtin "BaseException.__getattribute__")))
 (xhe:PySem.W.findIn K (.ref xhg) "__getattr__" = some none)
 (xg8:PySem.W.findIn K (.ref xhg) "__class__" = some (some (.builtin "object.__class__")))
 (xhd:PySem.W.mroIn K xhg (.type "object") = some true)
 (xg6:PySem.W.subIn K (.ref xhg) (.type "BaseException") = some true)
 (xg7:(PySem.W.clsIn K xhg).isSome = true)
 (xai:PySem.W.exmOne K (.ref xhg) (.ref xfz) = some true)
 (xak:PySem.W.kitOne K (.ref xhg) (.ref xhh) = some false)
 (xac:PySem.W.kitOne K (.ref xhg) (.ref xeo) = some false)
 (xal:PySem.W.kitOne K (.ref xhg) (.ref xhi) = some false)
 (xam:PySem.W.kitOne K (.ref xhg) (.ref xiP) = some false)
 (xaj:PySem.W.kitOne K (.ref xhg) (.ref xhg) = some true)
 (xan:PySem.W.kitOne K (.ref xhg) (.ref xiQ) = some false)
 (xgl:PySem.W.kitOne K (.ref xhg) (.type "ValueError") = some true)
 (xat:PySem.W.nsIn K mainGlobals "GREATEST_NUMBER" = some (some (.int 1000000 xbc)))
 (z_ValueError:PySem.W.nsIn K mainGlobals "ValueError" = some none)
 (z_abs:PySem.W.nsIn K mainGlobals "abs" = some none)
 (z_all:PySem.W.nsIn K mainGlobals "all" = some none)
 (z_any:PySem.W.nsIn K mainGlobals "any" = some none)
 (z_bool:PySem.W.nsIn K mainGlobals "bool" = some none)
 (z_dict:PySem.W.nsIn K mainGlobals "dict" = some none)
 (z_enumerate:PySem.W.nsIn K mainGlobals "enumerate" = some none)
 (z_int:PySem.W.nsIn K mainGlobals "int" = some none)
 (z_isinstance:PySem.W.nsIn K mainGlobals "isinstance" = some none)
 (z_len:PySem.W.nsIn K mainGlobals "len" = some none)
 (z_list:PySem.W.nsIn K mainGlobals "list" = some none)
 (z_range:PySem.W.nsIn K mainGlobals "range" = some none)
 (z_sorted:PySem.W.nsIn K mainGlobals "sorted" = some none)
 (z_sum:PySem.W.nsIn K mainGlobals "sum" = some none)
 (z_tuple:PySem.W.nsIn K mainGlobals "tuple" = some none)
 (lmA_picked:xje = .ref lc_picked)
 (lmB_picked:K.lookup lc_picked = some ⟨.type "code", lod_picked,.fields lvs_picked,lsl_picked⟩)
 (lmC_picked:lvs_picked[11]? = some (.ref lt_picked))
 (lmD_picked:lvs_picked.getD 18 .none = .str lfile_picked ltf_picked)
 (lmE_picked:lvs_picked.getD 7 .none = .int lflags_picked ltg_picked)
 (lmF_picked:lvs_picked.getD 9 .none = .bool linF_picked)
 (lmG_picked:lvs_picked.getD 10 .none = .int ltext_picked ltt_picked)
 (lmH_picked:lc_picked ≠ lt_picked)
 (lmI_picked:PySem.W.nsIn K mainGlobals "__builtins__" = some (some (.ref lb_picked)))
 (lmJ_picked:K.lookup lb_picked = some ⟨.type "module", some builtinsNs,.plain,lbs_picked⟩)
 (lmK_picked:lb_picked ≠ builtinsNs ∧ lb_picked ≠ mainGlobals)
 (is_NoneType_int:PySem.W.kitOne K (.type "NoneType") (.type "int") = some false)
 (is_bool_int:PySem.W.kitOne K (.type "bool") (.type "int") = some true)
 (is_int_int:PySem.W.kitOne K (.type "int") (.type "int") = some true)
 (is_str_int:PySem.W.kitOne K (.type "str") (.type "int") = some false)
 (is_list_int:PySem.W.kitOne K (.type "list") (.type "int") = some false)
 (is_tuple_int:PySem.W.kitOne K (.type "tuple") (.type "int") = some false)
 (is_int_bool:PySem.W.kitOne K (.type "int") (.type "bool") = some false)
 (is_bool_bool:PySem.W.kitOne K (.type "bool") (.type "bool") = some true)
 (is_NoneType_list:PySem.W.kitOne K (.type "NoneType") (.type "list") = some false)
 (is_bool_list:PySem.W.kitOne K (.type "bool") (.type "list") = some false)
 (is_int_list:PySem.W.kitOne K (.type "int") (.type "list") = some false)
 (is_str_list:PySem.W.kitOne K (.type "str") (.type "list") = some false)
 (is_list_list:PySem.W.kitOne K (.type "list") (.type "list") = some true)
 (is_tuple_list:PySem.W.kitOne K (.type "tuple") (.type "list") = some false)
 (is_NoneType_tuple:PySem.W.kitOne K (.type "NoneType") (.type "tuple") = some false)
 (is_bool_tuple:PySem.W.kitOne K (.type "bool") (.type "tuple") = some false)
 (is_int_tuple:PySem.W.kitOne K (.type "int") (.type "tuple") = some false)
 (is_str_tuple:PySem.W.kitOne K (.type "str") (.type "tuple") = some false)
 (is_list_tuple:PySem.W.kitOne K (.type "list") (.type "tuple") = some false)
 (is_tuple_tuple:PySem.W.kitOne K (.type "tuple") (.type "tuple") = some true)
 : ∃ (fd:FuncData) (A:Adr),(∀ (s:Shared) (v:Value),BindsTo s fd ⟨[v],[]⟩ [("_law_script", v)]) ∧ (∀ (H:Hp) (a:Addr) (ns:List Int),ns.length ≤ 63 → SqX K H a (ns.map V.int) → H lt_picked = some (.tbl #[]) → xkx K A [.ref a] H (fun v _=>v = .bl true) fun _ _ _=>False) ∧ ∀ base:Heap,K.In base → base.Ns mainGlobals mg → FnOk l.prog w K mg base CX0 10 fa fd ["_law_script"] (xkx K A):=by
  have e:=hfa.symm.trans (PySem.W.mg_of KX G a_law)
  cases e
  have T:Txt K mg ⟨xhX,(PySem.W.fnOf "is_whole" "is_whole" (defArgs xiB) (defBody xiB) (defScope xiB) .none xgs xgb xgS xfO xf1 xf4),xgi,(PySem.W.fnOf "is_number" "is_number" (defArgs xgW) (defBody xgW) (defScope xgW) .none xeV xeP xff xev xeF xeK),xdH,(PySem.W.fnOf "are_numbers" "are_numbers" (defArgs xd5) (defBody xd5) (defScope xd5) .none xcF xcz xc1 xcg xcp xct),xgh,(PySem.W.fnOf "goes_into" "goes_into" (defArgs xgV) (defBody xgV) (defScope xgV) .none xeU xeO xfe xeu xeE xeJ),xaS,(PySem.W.fnOf "part_with_times" "part_with_times" (defArgs xa5) (defBody xa5) (defScope xa5) .none xau xas xay xao xaq xar),xdI,(PySem.W.fnOf "turned_back" "turned_back" (defArgs xd6) (defBody xd6) (defScope xd6) .none xcG xcA xc2 xch xcq xcu),xjq,(PySem.W.fnOf "stretch" "stretch" (defArgs xjU) (defBody xjU) (defScope xjU) .none xh5 xhV xiy xhw xhK xhO),xkb,(PySem.W.fnOf "chosen" "chosen" (defArgs xkj) (defBody xkj) (defScope xkj) .none xjt xjl xjP xi3 xjd xjf),xgj,(PySem.W.fnOf "primes_of" "primes_of" (defArgs xgX) (defBody xgX) (defScope xgX) .none xeW xeQ xfg xew xeG xeL),xjo,(PySem.W.fnOf "grouped" "grouped" (defArgs xjS) (defBody xjS) (defScope xjS) .none xh3 xhT xiw xhu xhI xhM),xhY,(PySem.W.fnOf "together" "together" (defArgs xiC) (defBody xiC) (defScope xiC) .none xgt xgc xgT xfP xf2 xf5),xkc,(PySem.W.fnOf "picked" "picked" (defArgs xkk) (defBody xkk) (defScope xkk) .none xju xjm xjQ xi4 xje xjg),xjn,(PySem.W.fnOf "changes" "changes" (defArgs xjR) (defBody xjR) (defScope xjR) .none xh2 xhS xiv xht xhH xhL),xcD,(PySem.W.fnOf "reached_sums" "reached_sums" (defArgs xc5) (defBody xc5) (defScope xc5) .none xbP xbL xbZ xbz xbF xbI),xjp,(PySem.W.fnOf "new_sum" "new_sum" (defArgs xjT) (defBody xjT) (defScope xjT) .none xh4 xhU xix xhv xhJ xhN),xcB,(PySem.W.fnOf "_law_cell_at" "_law_cell_at" (defArgs xc3) (defBody xc3) (defScope xc3) .none xbN xbJ xbX xbx xbD xbG),xgg,(PySem.W.fnOf "_law_draw" "_law_draw" (defArgs xgU) (defBody xgU) (defScope xgU) .none xeT xeN xfd xet xeD xeI),xhW,(PySem.W.fnOf "_law_row" "_law_row" (defArgs xiA) (defBody xiA) (defScope xiA) .none xgr xga xgR xfN xf0 xf3),xeR,(PySem.W.fnOf "_law_whole" "_law_whole" (defArgs xfi) (defBody xfi) (defScope xfi) .none xdQ xdC xd3 xdq xdx xdy),xcC,(PySem.W.fnOf "_law_numbers" "_law_numbers" (defArgs xc4) (defBody xc4) (defScope xc4) .none xbO xbK xbY xby xbE xbH),xbo,(PySem.W.fnOf "_law_stretched" "_law_stretched" (defArgs xbw) (defBody xbw) (defScope xbw) .none xaV xaR xa4 xaH xaM xaO),xdG,(PySem.W.fnOf "_law_picked" "_law_picked" (defArgs xd4) (defBody xd4) (defScope xd4) .none xcE xcy xc0 xcf xco xcs),xbn,(PySem.W.fnOf "_law_bad_count" "_law_bad_count" (defArgs xbv) (defBody xbv) (defScope xbv) .none xaU xaQ xa3 xaG xaL xaN),fa,(PySem.W.fnOf "law" "law" (defArgs s_law) (defBody s_law) (defScope s_law) .none xkq xkp xku xkl xkn xko),xfz,xhh,xeo,xhi,xiP,xhg,xiQ,xbc,lc_picked,lt_picked⟩:=⟨fun_mk (st:=xiB) xia xhF xh7,
    (fun_mk (st:=xiB) xia xhF xh7).binds (ps:=["value"]) (fun _ _ _ _ _ _ us hl=>match us,hl with | [_],_=>rfl),
    PySem.W.mg_of KX G xhr,
    xh7,
    fun_mk (st:=xgW) xgA xfY xgw,
    (fun_mk (st:=xgW) xgA xfY xgw).binds (ps:=["value"]) (fun _ _ _ _ _ _ us hl=>match us,hl with | [_],_=>rfl),
    PySem.W.mg_of KX G xfK,
    xgw,
    fun_mk (st:=xd5) xdV xdv xdS,
    (fun_mk (st:=xd5) xdV xdv xdS).binds (ps:=["value"]) (fun _ _ _ _ _ _ us hl=>match us,hl with | [_],_=>rfl),
    PySem.W.mg_of KX G xdn,
    xdS,
    fun_mk (st:=xgV) xgz xfX xgv,
    (fun_mk (st:=xgV) xgz xfX xgv).binds (ps:=["part", "number"]) (fun _ _ _ _ _ _ us hl=>match us,hl with | [_,_],_=>rfl),
    PySem.W.mg_of KX G xfJ,
    xgv,
    fun_mk (st:=xa5) xaX xaK xaW,
    (fun_mk (st:=xa5) xaX xaK xaW).binds (ps:=["one", "other"]) (fun _ _ _ _ _ _ us hl=>match us,hl with | [_,_],_=>rfl),
    PySem.W.mg_of KX G xaF,
    xaW,
    fun_mk (st:=xd6) xdW xdw xdT,
    (fun_mk (st:=xd6) xdW xdw xdT).binds (ps:=["number", "turn"]) (fun _ _ _ _ _ _ us hl=>match us,hl with | [_,_],_=>rfl),
    PySem.W.mg_of KX G xdo,
    xdT,
    fun_mk (st:=xjU) xjC xjc xjy,
    (fun_mk (st:=xjU) xjC xjc xjy).binds (ps:=["numbers"]) (fun _ _ _ _ _ _ us hl=>match us,hl with | [_],_=>rfl),
    PySem.W.mg_of KX G xi2,
    xjy,
    fun_mk (st:=xkj) xkf xj7 xkd,
    (fun_mk (st:=xkj) xkf xj7 xkd).binds (ps:=["numbers"]) (fun _ _ _ _ _ _ us hl=>match us,hl with | [_],_=>rfl),
    PySem.W.mg_of KX G xj5,
    xkd,
    fun_mk (st:=xgX) xgB xfZ xgx,
    (fun_mk (st:=xgX) xgB xfZ xgx).binds (ps:=["count"]) (fun _ _ _ _ _ _ us hl=>match us,hl with | [_],_=>rfl),
    PySem.W.mg_of KX G xfL,
    xgx,
    fun_mk (st:=xjS) xjA xja xjw,
    (fun_mk (st:=xjS) xjA xja xjw).binds (ps:=["groups", "prime"]) (fun _ _ _ _ _ _ us hl=>match us,hl with | [_,_],_=>rfl),
    PySem.W.mg_of KX G xi0,
    xjw,
    fun_mk (st:=xiC) xib xhG xh8,
    (fun_mk (st:=xiC) xib xhG xh8).binds (ps:=["groups", "prime"]) (fun _ _ _ _ _ _ us hl=>match us,hl with | [_,_],_=>rfl),
    PySem.W.mg_of KX G xhs,
    xh8,
    fun_mk (st:=xkk) xkg xj8 xke,
    (fun_mk (st:=xkk) xkg xj8 xke).binds (ps:=["numbers", "prime"]) (fun _ _ _ _ _ _ us hl=>match us,hl with | [_,_],_=>rfl),
    PySem.W.mg_of KX G xj6,
    xke,
    fun_mk (st:=xjR) xjz xi9 xjv,
    (fun_mk (st:=xjR) xjz xi9 xjv).binds (ps:=["gains", "wanted", "prime"]) (fun _ _ _ _ _ _ us hl=>match us,hl with | [_,_,_],_=>rfl),
    PySem.W.mg_of KX G xiZ,
    xjv,
    fun_mk (st:=xc5) xcM xcn xcJ,
    (fun_mk (st:=xc5) xcM xcn xcJ).binds (ps:=["gains", "wanted", "prime"]) (fun _ _ _ _ _ _ us hl=>match us,hl with | [_,_,_],_=>rfl),
    PySem.W.mg_of KX G xce,
    xcJ,
    fun_mk (st:=xjT) xjB xjb xjx,
    (fun_mk (st:=xjT) xjB xjb xjx).binds (ps:=["reached", "gain", "wanted", "prime"]) (fun _ _ _ _ _ _ us hl=>match us,hl with | [_,_,_,_],_=>rfl),
    PySem.W.mg_of KX G xi1,
    xjx,
    fun_mk (st:=xc3) xcK xcl xcH,
    (fun_mk (st:=xc3) xcK xcl xcH).binds (ps:=["_law_script", "_law_k"]) (fun _ _ _ _ _ _ us hl=>match us,hl with | [_,_],_=>rfl),
    PySem.W.mg_of KX G xcc,
    xcH,
    fun_mk (st:=xgU) xgy xfW xgu,
    (fun_mk (st:=xgU) xgy xfW xgu).binds (ps:=["_law_cell", "_law_k", "_law_many"]) (fun _ _ _ _ _ _ us hl=>match us,hl with | [_,_,_],_=>rfl),
    PySem.W.mg_of KX G xfI,
    xgu,
    fun_mk (st:=xiA) xh9 xhE xh6,
    (fun_mk (st:=xiA) xh9 xhE xh6).binds (ps:=["_law_script"]) (fun _ _ _ _ _ _ us hl=>match us,hl with | [_],_=>rfl),
    PySem.W.mg_of KX G xhq,
    xh6,
    fun_mk (st:=xfi) xeY xeC xeX,
    (fun_mk (st:=xfi) xeY xeC xeX).binds (ps:=["_law_number"]) (fun _ _ _ _ _ _ us hl=>match us,hl with | [_],_=>rfl),
    PySem.W.mg_of KX G xes,
    xeX,
    fun_mk (st:=xc4) xcL xcm xcI,
    (fun_mk (st:=xc4) xcL xcm xcI).binds (ps:=["_law_found"]) (fun _ _ _ _ _ _ us hl=>match us,hl with | [_],_=>rfl),
    PySem.W.mg_of KX G xcd,
    xcI,
    fun_mk (st:=xbw) xbs xbk xbq,
    (fun_mk (st:=xbw) xbs xbk xbq).binds (ps:=["_law_numbers_here", "_law_found"]) (fun _ _ _ _ _ _ us hl=>match us,hl with | [_,_],_=>rfl),
    PySem.W.mg_of KX G xbi,
    xbq,
    fun_mk (st:=xd4) xdU xdu xdR,
    (fun_mk (st:=xd4) xdU xdu xdR).binds (ps:=["_law_numbers_here", "_law_found"]) (fun _ _ _ _ _ _ us hl=>match us,hl with | [_,_],_=>rfl),
    PySem.W.mg_of KX G xdm,
    xdR,
    fun_mk (st:=xbv) xbr xbj xbp,
    (fun_mk (st:=xbv) xbr xbj xbp).binds (ps:=["_law_ask", "_law_numbers_here"]) (fun _ _ _ _ _ _ us hl=>match us,hl with | [_,_],_=>rfl),
    PySem.W.mg_of KX G xbh,
    xbp,
    fun_mk (st:=s_law) l_law c_law k_law,
    (fun_mk (st:=s_law) l_law c_law k_law).binds (ps:=["_law_script"]) (fun _ _ _ _ _ _ us hl=>match us,hl with | [_],_=>rfl),
    PySem.W.mg_of KX G a_law,
    k_law,
    PySem.W.mg_of KX G xgk,
    PySem.W.mg_of KX G xh0,
    PySem.W.mg_of KX G xeS,
    PySem.W.mg_of KX G xh1,
    PySem.W.mg_of KX G xjr,
    PySem.W.mg_of KX G xhZ,
    PySem.W.mg_of KX G xjs,
    ⟨_,_,_,_,_,_,_,_,_,_,_,_,_,_,_,_,xej,xek,xei,xen⟩,
    ⟨xeh,xem,xeg,xel,xee,xef⟩,
    xab,
    xae,
    xaa,
    xaf,
    xag,
    xad,
    xah,
    xdK,
    ⟨_,_,_,_,_,_,_,_,_,_,_,_,_,_,_,_,xhb,xhc,xha,xhf⟩,
    ⟨xg9,xhe,xg8,xhd,xg6,xg7⟩,
    xai,
    xak,
    xac,
    xal,
    xam,
    xaj,
    xan,
    xgl,
    PySem.W.mg_of KX G xat,
    PySem.W.mg_none_of KX G z_ValueError,
    PySem.W.mg_none_of KX G z_abs,
    PySem.W.mg_none_of KX G z_all,
    PySem.W.mg_none_of KX G z_any,
    PySem.W.mg_none_of KX G z_bool,
    PySem.W.mg_none_of KX G z_dict,
    PySem.W.mg_none_of KX G z_enumerate,
    PySem.W.mg_none_of KX G z_int,
    PySem.W.mg_none_of KX G z_isinstance,
    PySem.W.mg_none_of KX G z_len,
    PySem.W.mg_none_of KX G z_list,
    PySem.W.mg_none_of KX G z_range,
    PySem.W.mg_none_of KX G z_sorted,
    PySem.W.mg_none_of KX G z_sum,
    PySem.W.mg_none_of KX G z_tuple,
    L2.lam_mk lmA_picked lmB_picked lmC_picked lmD_picked lmE_picked lmF_picked lmG_picked lmH_picked (PySem.W.mg_of KX G lmI_picked) lmJ_picked lmK_picked,
    is_NoneType_int,
    is_bool_int,
    is_int_int,
    is_str_int,
    is_list_int,
    is_tuple_int,
    is_int_bool,
    is_bool_bool,
    is_NoneType_list,
    is_bool_list,
    is_int_list,
    is_str_list,
    is_list_list,
    is_tuple_list,
    is_NoneType_tuple,
    is_bool_tuple,
    is_int_tuple,
    is_str_tuple,
    is_list_tuple,
    is_tuple_tuple⟩
  exact ⟨PySem.W.fnOf "law" "law" (defArgs s_law) (defBody s_law) (defScope s_law) .none xkq xkp xku xkl xkn xko,_,fun s v=>.of_eq rfl,fun H a ns hl hS hT=>⟨a,ns,rfl,hS,hl,.inl hT,fun _=>rfl⟩,fun base _ _=>xkt T⟩
theorem walk {l:PySem.W.OpenLaw} {q:Program} {loose:List Str} {XP:(Str → Option Value) → Heap → Prop} {YP:World → Heap → Prop} {d:DefRec} {K:Params → PySem.W.Frag} {T c:Addr} (hn:l.most = some 63) (hdf:d.params.defaults = [])
    (hY:∀ (w:World) (h:Heap),YP w h → (K w.params).In h ∧ h.get? T = some (PySem.W.tabObj #[])) (hKT:∀ P,(K P).lookup T = none)
    (hcd:∀ P,∃ oc fs,(K P).lookup c = some oc ∧ oc.cls = .type "code" ∧ oc.data = .fields fs ∧ fs[11]? = some (.ref T))
    (F:∀ (w:World) (mg:Str → Option Value) (fa:Addr) (h:Heap),(K w.params).In h → h.Ns mainGlobals mg → mg d.name = some (.ref fa) →
      ∃ (fd:FuncData) (A:Adr),(∀ (s:Shared) (u:Value),BindsTo s fd ⟨[u],[]⟩ [("_law_script", u)]) ∧ (∀ (H:Hp) (a:Addr) (ns:List Int),ns.length ≤ 63 → SqX (K w.params) H a (ns.map V.int) → H T = some (.tbl #[]) → xkx (K w.params) A [.ref a] H (fun v _=>v = .bl true) fun _ _ _=>False) ∧ ∀ base:Heap,(K w.params).In base → base.Ns mainGlobals mg → FnOk l.prog w (K w.params) mg base CX0 10 fa fd ["_law_script"] (xkx (K w.params) A)) :
    PySem.W.WalkO q loose XP YP l.row.toRowW d [] (fun f vs=>PySem.call f vs) :=
  L2.walk_ofT (n:=63) (k:=10) (x := "_law_script") (CX:=fun _=>CX0) (α:=Adr) (sp:=fun K A=>xkx K A) hn (by decide) hdf ⟨rfl,by decide,by decide⟩ hY hKT hcd F fun _ _ _ _ _ z=>z
end W05
open PySem PySem.W PyProof.Rows
set_option maxRecDepth 100000 in
set_option maxHeartbeats 0 in
theorem PySem.Challenge.cw_wheelrow_k05_sums_holds : PySem.Challenge.rw_wheelrow_k05_sums.Holds := by
  w_on; o_law
  refine PySem.W.holds_open (q:=H05.Q) (loose:=[]) (Xt:=H05.XtOf H05.Q) (XP:=XL H05.Q []) (Yf:=Hook.obs (kHook H05.K2 H05.as2 H05.as_eq2)) (Ya:=Hook.val (kHook H05.K2 H05.as2 H05.as_eq2)) (YP:=Hook.says (kHook H05.K2 H05.as2 H05.as_eq2)) (N:=4676) H05.left (Hook.of H05.H) (Hook.keeps H05.H) (fun s e=>xl_of s (Bool.and_eq_true_iff.mp e).1) XL.keeps (by rfl) (by rfl) (by rfl) (fun s e=>recFacts_of (Bool.and_eq_true_iff.mp e).2) (by rfl) (by first | assumption | decide +kernel) (by decide +kernel) ⟨rfl,rfl,rfl,rfl,rfl,by decide +kernel⟩ ?hw ?hc
  (case hw=>w_witness2)
  refine W05.walk (l:=PySem.Challenge.rw_wheelrow_k05_sums) (K:=H05.K) (T:=172) (c:=174) rfl rfl (fun w h Y=>L2.in_tail (H05.noT w.params) (PySem.W.kIn_of Y)) H05.noT (fun P=>H05.hcd P) ?F
  case F =>
    k_fill
    intro w mg fa h KX G hmg
    refine' W05.all_mk KX G hmg ?xhr ?xia ?xhF ?xh7 ?xfK ?xgA ?xfY ?xgw ?xdn ?xdV ?xdv ?xdS ?xfJ ?xgz ?xfX ?xgv ?xaF ?xaX ?xaK ?xaW ?xdo ?xdW ?xdw ?xdT ?xi2 ?xjC ?xjc ?xjy ?xj5 ?xkf ?xj7 ?xkd ?xfL ?xgB ?xfZ ?xgx ?xi0 ?xjA ?xja ?xjw ?xhs ?xib ?xhG ?xh8 ?xj6 ?xkg ?xj8 ?xke ?xiZ ?xjz ?xi9 ?xjv ?xce ?xcM ?xcn ?xcJ ?xi1 ?xjB ?xjb ?xjx ?xcc ?xcK ?xcl ?xcH ?xfI ?xgy ?xfW ?xgu ?xhq ?xh9 ?xhE ?xh6 ?xes ?xeY ?xeC ?xeX ?xcd ?xcL ?xcm ?xcI ?xbi ?xbs ?xbk ?xbq ?xdm ?xdU ?xdu ?xdR ?xbh ?xbr ?xbj ?xbp ?a_law ?l_law ?c_law ?k_law ?xgk ?xh0 ?xeS ?xh1 ?xjr ?xhZ ?xjs ?xej ?xek ?xei ?xen ?xeh ?xem ?xeg ?xel ?xee ?xef ?xab ?xae ?xaa ?xaf ?xag ?xad ?xah ?xdK ?xhb ?xhc ?xha ?xhf ?xg9 ?xhe ?xg8 ?xhd ?xg6 ?xg7 ?xai ?xak ?xac ?xal ?xam ?xaj ?xan ?xgl ?xat ?z_ValueError ?z_abs ?z_all ?z_any ?z_bool ?z_dict ?z_enumerate ?z_int ?z_isinstance ?z_len ?z_list ?z_range ?z_sorted ?z_sum ?z_tuple ?lmA_picked ?lmB_picked ?lmC_picked ?lmD_picked ?lmE_picked ?lmF_picked ?lmG_picked ?lmH_picked ?lmI_picked ?lmJ_picked ?lmK_picked ?is_NoneType_int ?is_bool_int ?is_int_int ?is_str_int ?is_list_int ?is_tuple_int ?is_int_bool ?is_bool_bool ?is_NoneType_list ?is_bool_list ?is_int_list ?is_str_list ?is_list_list ?is_tuple_list ?is_NoneType_tuple ?is_bool_tuple ?is_int_tuple ?is_str_tuple ?is_list_tuple ?is_tuple_tuple
    (case xhr=>k_is)
    (case xia=>k_is)
    (case xhF=>k_is)
    (case xh7=>k_is)
    (case xfK=>k_is)
    (case xgA=>k_is)
    (case xfY=>k_is)
    (case xgw=>k_is)
    (case xdn=>k_is)
    (case xdV=>k_is)
    (case xdv=>k_is)
    (case xdS=>k_is)
    (case xfJ=>k_is)
    (case xgz=>k_is)
    (case xfX=>k_is)
    (case xgv=>k_is)
    (case xaF=>k_is)
    (case xaX=>k_is)
    (case xaK=>k_is)
    (case xaW=>k_is)
    (case xdo=>k_is)
    (case xdW=>k_is)
    (case xdw=>k_is)
    (case xdT=>k_is)
    (case xi2=>k_is)
    (case xjC=>k_is)
    (case xjc=>k_is)
    (case xjy=>k_is)
    (case xj5=>k_is)
    (case xkf=>k_is)
    (case xj7=>k_is)
    (case xkd=>k_is)
    (case xfL=>k_is)
    (case xgB=>k_is)
    (case xfZ=>k_is)
    (case xgx=>k_is)
    (case xi0=>k_is)
    (case xjA=>k_is)
    (case xja=>k_is)
    (case xjw=>k_is)
    (case xhs=>k_is)
    (case xib=>k_is)
    (case xhG=>k_is)
    (case xh8=>k_is)
    (case xj6=>k_is)
    (case xkg=>k_is)
    (case xj8=>k_is)
    (case xke=>k_is)
    (case xiZ=>k_is)
    (case xjz=>k_is)
    (case xi9=>k_is)
    (case xjv=>k_is)
    (case xce=>k_is)
    (case xcM=>k_is)
    (case xcn=>k_is)
    (case xcJ=>k_is)
    (case xi1=>k_is)
    (case xjB=>k_is)
    (case xjb=>k_is)
    (case xjx=>k_is)
    (case xcc=>k_is)
    (case xcK=>k_is)
    (case xcl=>k_is)
    (case xcH=>k_is)
    (case xfI=>k_is)
    (case xgy=>k_is)
    (case xfW=>k_is)
    (case xgu=>k_is)
    (case xhq=>k_is)
    (case xh9=>k_is)
    (case xhE=>k_is)
    (case xh6=>k_is)
    (case xes=>k_is)
    (case xeY=>k_is)
    (case xeC=>k_is)
    (case xeX=>k_is)
    (case xcd=>k_is)
    (case xcL=>k_is)
    (case xcm=>k_is)
    (case xcI=>k_is)
    (case xbi=>k_is)
    (case xbs=>k_is)
    (case xbk=>k_is)
    (case xbq=>k_is)
    (case xdm=>k_is)
    (case xdU=>k_is)
    (case xdu=>k_is)
    (case xdR=>k_is)
    (case xbh=>k_is)
    (case xbr=>k_is)
    (case xbj=>k_is)
    (case xbp=>k_is)
    (case a_law=>k_is)
    (case l_law=>k_is)
    (case c_law=>k_is)
    (case k_law=>k_is)
    (case xgk=>k_is)
    (case xh0=>k_is)
    (case xeS=>k_is)
    (case xh1=>k_is)
    (case xjr=>k_is)
    (case xhZ=>k_is)
    (case xjs=>k_is)
    (case xej=>k_is)
    (case xek=>kernel_rfl)
    (case xei=>k_is)
    (case xen=>kernel_rfl)
    (case xeh=>k_is)
    (case xem=>k_is)
    (case xeg=>k_is)
    (case xel=>k_is)
    (case xee=>kernel_rfl)
    (case xef=>kernel_rfl)
    (case xab=>kernel_rfl)
    (case xae=>kit_is)
    (case xaa=>kit_is)
    (case xaf=>kit_is)
    (case xag=>kit_is)
    (case xad=>kit_is)
    (case xah=>kit_is)
    (case xdK=>kit_is)
    (case xhb=>k_is)
    (case xhc=>kernel_rfl)
    (case xha=>k_is)
    (case xhf=>kernel_rfl)
    (case xg9=>k_is)
    (case xhe=>k_is)
    (case xg8=>k_is)
    (case xhd=>k_is)
    (case xg6=>kernel_rfl)
    (case xg7=>kernel_rfl)
    (case xai=>kernel_rfl)
    (case xak=>kit_is)
    (case xac=>kit_is)
    (case xal=>kit_is)
    (case xam=>kit_is)
    (case xaj=>kit_is)
    (case xan=>kit_is)
    (case xgl=>kit_is)
    (case xat=>k_is)
    (case z_ValueError=>k_is)
    (case z_abs=>k_is)
    (case z_all=>k_is)
    (case z_any=>k_is)
    (case z_bool=>k_is)
    (case z_dict=>k_is)
    (case z_enumerate=>k_is)
    (case z_int=>k_is)
    (case z_isinstance=>k_is)
    (case z_len=>k_is)
    (case z_list=>k_is)
    (case z_range=>k_is)
    (case z_sorted=>k_is)
    (case z_sum=>k_is)
    (case z_tuple=>k_is)
    (case lmA_picked=>rfl)
    (case lmB_picked=>k_is)
    (case lmC_picked=>rfl)
    (case lmD_picked=>rfl)
    (case lmE_picked=>rfl)
    (case lmF_picked=>rfl)
    (case lmG_picked=>rfl)
    (case lmH_picked=>decide)
    (case lmI_picked=>k_is)
    (case lmJ_picked=>k_is)
    (case lmK_picked=>decide)
    (case is_NoneType_int=>kit_is)
    (case is_bool_int=>kit_is)
    (case is_int_int=>kit_is)
    (case is_str_int=>kit_is)
    (case is_list_int=>kit_is)
    (case is_tuple_int=>kit_is)
    (case is_int_bool=>kit_is)
    (case is_bool_bool=>kit_is)
    (case is_NoneType_list=>kit_is)
    (case is_bool_list=>kit_is)
    (case is_int_list=>kit_is)
    (case is_str_list=>kit_is)
    (case is_list_list=>kit_is)
    (case is_tuple_list=>kit_is)
    (case is_NoneType_tuple=>kit_is)
    (case is_bool_tuple=>kit_is)
    (case is_int_tuple=>kit_is)
    (case is_str_tuple=>kit_is)
    (case is_list_tuple=>kit_is)
    (case is_tuple_tuple=>kit_is)

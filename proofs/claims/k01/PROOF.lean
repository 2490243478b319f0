import PyProof.Rows.All
import Wide.All
import OpenK.AllK
import Wide.FinOn
import HandS.ForMost
import HandS.Exc
import HandS.TryOnly
import HandS.TryMany
import HandS.WordsExc
import HandS.CallSlots
import HandS.Walk
import HandS.Rev
import HandS.Zip
import HandS.TupAny
import HandS.TupMul
import HandS.Gcd
import HandS.IsInst
import HandS.Style
import HandS.Flow
import HandS.ExcValue
import KE.KTupSum
import PyProof.StrOps2
import PyProof.Rows.ReprR
import KE.KExcSuper
import KE.KExcIs
import HandS.ExcField
import KE.KExcLine
import PySem.Challenge.RW_touchshare_k01_errors
set_option Elab.async false
set_option linter.all false
set_option maxRecDepth 100000
set_option maxHeartbeats 4000000
namespace Pl
open PySem PySem.Spec PyProof.Rows L2

abbrev D := PyData
/-- the written part, and the error classes: address and field -/
structure Kx where
  K : PySem.W.Frag
  ec : List (Addr × Str)

/-- an error of the class number c, made of d, among the data (no dict looks so) -/
def errD (c : Nat) (d : D) : D := .dict [(.list [.int c], d)]
/-- an exception object at a: class cls, own dict d -/
def ErO (cls : Value) (d : Addr) (a : Addr) : HO := .ext fun h => ∃ (oe : Obj) (vs : Array Value), h.get? a = some oe ∧ Zc cls (some d) oe ∧ oe.data = .fields vs
/-! ### data in the frozen part -/
mutual
inductive Dr (K : Kx) (F : Hp) : V → D → Prop
  | non : Dr K F .non .none
  | bl (b : Bool) : Dr K F (.bl b) (.bool b)
  | int (i : Int) : Dr K F (.int i) (.int i)
  | str (x : Str) : Dr K F (.str x) (.str x)
  | lst {a : Addr} {xs : List V} {ds : List D} : F a = some (.lst xs) → Drs K F xs ds → Dr K F (.ref a) (.list ds)
  | tup {a : Addr} {xs : List V} {ds : List D} : SqT K.K F a xs → Drs K F xs ds → Dr K F (.ref a) (.tuple ds)
  | dct {a : Addr} {kvs : List (Key × V)} {ds : List (D × D)} : F a = some (.dK kvs) → Drk K F kvs ds → Dr K F (.ref a) (.dict ds)
  | err {a e C : Addr} {f : Str} {v : V} {c : Nat} {d : D} : K.ec[c]? = some (C, f) → F a = some (ErO (.ref C) e a) → F e = some (.xd [(f, v)]) → Dr K F v d → Dr K F (.ref a) (errD c d)
  | erp {a C : Addr} {c : Nat} : K.ec[c]? = some (C, ("" : Str)) → F a = some (ExO (.ref C) a) → Dr K F (.ref a) (errD c .none)
inductive Drs (K : Kx) (F : Hp) : List V → List D → Prop
  | nil : Drs K F [] []
  | cons {v : V} {vs : List V} {d : D} {ds : List D} : Dr K F v d → Drs K F vs ds → Drs K F (v :: vs) (d :: ds)
inductive Drk (K : Kx) (F : Hp) : List (Key × V) → List (D × D) → Prop
  | nil : Drk K F [] []
  | cons {k : Key} {v : V} {kvs : List (Key × V)} {e d : D} {ds : List (D × D)} : Dr K F (kV k) e → Dr K F v d → Drk K F kvs ds → Drk K F ((k, v) :: kvs) ((e, d) :: ds)
end

theorem Same.rd {F H : Hp} (s : Same F H) {a : Addr} {u : HO} (h : L2.Rd F a u) : L2.Rd H a u := by
  rcases h with h | ⟨o, h⟩
  · exact .inl (s _ _ h)
  · exact .inr ⟨o, s _ _ h⟩
theorem Same.sqL {K : PySem.W.Frag} {F H : Hp} (s : Same F H) {a : Addr} {xs : List V} (h : SqL K F a xs) : SqL K H a xs := h.imp (Same.rd s) id
theorem Same.sqT {K : PySem.W.Frag} {F H : Hp} (s : Same F H) {a : Addr} {xs : List V} (h : SqT K F a xs) : SqT K H a xs := h.imp (Same.rd s) id

mutual
theorem Dr.mono {K : Kx} {F H : Hp} (s : Same F H) : ∀ (d : D) (v : V), Dr K F v d → Dr K H v d
  | .none, _, h => by cases h; exact .non
  | .bool b, _, h => by cases h; exact .bl b
  | .int b, _, h => by cases h; exact .int b
  | .str b, _, h => by cases h; exact .str b
  | .list ds, _, h => by
    cases h with
    | lst a b => exact .lst (s _ _ a) (Drs.mono s ds _ b)
  | .tuple ds, _, h => by
    cases h with
    | tup a b => exact .tup (Same.sqT s a) (Drs.mono s ds _ b)
  | .dict ds, v, h => by
    generalize hq : PyData.dict ds = q at h ⊢
    cases h with
    | dct a b => cases hq; exact .dct (s _ _ a) (Drk.mono s ds _ b)
    | err a b x r => exact .err a (s _ _ b) (s _ _ x) (Dr1.mono s ds _ (PyData.dict.inj hq) r)
    | erp a b => exact .erp a (s _ _ b)
    | non => cases hq
    | bl => cases hq
    | int => cases hq
    | str => cases hq
    | lst => cases hq
    | tup => cases hq
theorem Dr1.mono {K : Kx} {F H : Hp} (s : Same F H) : ∀ (ds : List (D × D)) (v : V) {e d : D}, ds = [(e, d)] → Dr K F v d → Dr K H v d
  | [], _, _, _, q, _ => by cases q
  | (e', d') :: ds, v, e, d, q, h => by
    have z : d' = d := by cases q; rfl
    exact z ▸ Dr.mono s d' v (z ▸ h)
theorem Drs.mono {K : Kx} {F H : Hp} (s : Same F H) : ∀ (ds : List D) (vs : List V), Drs K F vs ds → Drs K H vs ds
  | [], _, h => by cases h; exact .nil
  | d :: ds, _, h => by
    cases h with
    | cons a b => exact .cons (Dr.mono s d _ a) (Drs.mono s ds _ b)
theorem Drk.mono {K : Kx} {F H : Hp} (s : Same F H) : ∀ (ds : List (D × D)) (vs : List (Key × V)), Drk K F vs ds → Drk K H vs ds
  | [], _, h => by cases h; exact .nil
  | (e, d) :: ds, _, h => by
    cases h with
    | cons a b c => exact .cons (Dr.mono s e _ a) (Dr.mono s d _ b) (Drk.mono s ds _ c)
end

mutual
/-- data without dicts, as the library's deep == reads it -/
theorem Dr.dp {K : Kx} {F H : Hp} (s : Same F H) : ∀ (d : D) (v : V), d.hasDict = false → Dr K F v d → Dp K.K H v d
  | .none, _, _, h => by cases h; exact .non
  | .bool b, _, _, h => by cases h; exact .bl b
  | .int b, _, _, h => by cases h; exact .int b
  | .str b, _, _, h => by cases h; exact .str b
  | .list ds, _, n, h => by
    cases h with
    | lst a b => exact .lst (SqL.of (s _ _ a)) (Drs.dp s ds _ (by simpa [PyData.hasDict] using n) b)
  | .tuple ds, _, n, h => by
    cases h with
    | tup a b => exact .tup (Same.sqT s a) (Drs.dp s ds _ (by simpa [PyData.hasDict] using n) b)
  | .dict ds, _, n, h => by simp [PyData.hasDict] at n
theorem Drs.dp {K : Kx} {F H : Hp} (s : Same F H) : ∀ (ds : List D) (vs : List V), PyData.hasDictAll ds = false → Drs K F vs ds → DpAll K.K H vs ds
  | [], _, _, h => by cases h; exact .nil
  | d :: ds, _, n, h => by
    have n' : d.hasDict = false ∧ PyData.hasDictAll ds = false := by simpa [PyData.hasDictAll] using n
    cases h with
    | cons a b => exact .cons (Dr.dp s d _ n'.1 a) (Drs.dp s ds _ n'.2 b)
end
theorem noDict {d : D} (h : SeqAt.shaped d = true) : d.hasDict = false := PyData.hasDict_of_canLay d (SeqAt.canLay_of_shaped h)
theorem Drs.len {K : Kx} {F : Hp} : ∀ {vs : List V} {ds : List D}, Drs K F vs ds → vs.length = ds.length
  | _, _, .nil => rfl
  | _, _, .cons _ t => by simp [Drs.len t]
theorem Drs.get {K : Kx} {F : Hp} : ∀ {vs : List V} {ds : List D} {i : Nat} {x : V}, Drs K F vs ds → vs[i]? = some x → ∃ d, ds[i]? = some d ∧ Dr K F x d
  | _, _, _, _, .nil, e => by simp at e
  | _, _, 0, _, .cons r _, e => by simp at e; subst e; exact ⟨_, rfl, r⟩
  | _, _, i + 1, x, .cons _ t, e => by
    obtain ⟨u, h1, h2⟩ := Drs.get (i := i) (x := x) t (by simpa using e)
    exact ⟨u, by simpa using h1, h2⟩
theorem Drs.getD {K : Kx} {F : Hp} : ∀ {vs : List V} {ds : List D} {i : Nat} {d : D}, Drs K F vs ds → ds[i]? = some d → ∃ x, vs[i]? = some x ∧ Dr K F x d
  | _, _, _, _, .nil, e => by simp at e
  | _, _, 0, _, .cons r _, e => by simp at e; subst e; exact ⟨_, rfl, r⟩
  | _, _, i + 1, x, .cons _ t, e => by
    obtain ⟨u, h1, h2⟩ := Drs.getD (i := i) (d := x) t (by simpa using e)
    exact ⟨u, by simpa using h1, h2⟩
theorem Drs.append {K : Kx} {F : Hp} : ∀ {xs ys : List V} {us ws : List D}, Drs K F xs us → Drs K F ys ws → Drs K F (xs ++ ys) (us ++ ws)
  | _, _, _, _, .nil, s => s
  | _, _, _, _, .cons r t, s => .cons r (Drs.append t s)
theorem Drs.take {K : Kx} {F : Hp} : ∀ {xs : List V} {us : List D} (n : Nat), Drs K F xs us → Drs K F (xs.take n) (us.take n)
  | _, _, 0, _ => .nil
  | _, _, _ + 1, .nil => .nil
  | _, _, n + 1, .cons r t => .cons r (Drs.take n t)
theorem Drs.drop {K : Kx} {F : Hp} : ∀ {xs : List V} {us : List D} (n : Nat), Drs K F xs us → Drs K F (xs.drop n) (us.drop n)
  | _, _, 0, r => r
  | _, _, _ + 1, .nil => .nil
  | _, _, n + 1, .cons _ t => Drs.drop n t
theorem Drs.set {K : Kx} {F : Hp} {x : V} {u : D} (r : Dr K F x u) : ∀ {xs : List V} {us : List D} (i : Nat), Drs K F xs us → Drs K F (xs.set i x) (us.set i u)
  | _, _, _, .nil => .nil
  | _, _, 0, .cons _ t => .cons r t
  | _, _, i + 1, .cons q t => .cons q (Drs.set r i t)
theorem Drs.rev {K : Kx} {F : Hp} : ∀ {xs : List V} {us : List D}, Drs K F xs us → Drs K F xs.reverse us.reverse
  | _, _, .nil => .nil
  | _, _, .cons r t => by
    rw [List.reverse_cons, List.reverse_cons]
    exact Drs.append (Drs.rev t) (.cons r .nil)
theorem Drs.rep {K : Kx} {F : Hp} {xs : List V} {us : List D} (h : Drs K F xs us) : ∀ k : Nat, Drs K F (List.replicate k xs).flatten (List.replicate k us).flatten
  | 0 => .nil
  | k + 1 => by
    rw [List.replicate_succ, List.replicate_succ, List.flatten_cons, List.flatten_cons]
    exact Drs.append h (Drs.rep h k)

/-! ### containers, values, slots -/
/-- what a changeable container holds -/
inductive Cn where
  | lst (ds : List D)
  | dk (kvs : List (Key × D))
/-- a value -/
inductive Val where
  /-- data that never changes any more -/
  | dat (d : D)
  /-- a container of its own: fresh, or held by one name alone -/
  | fr (c : Cn)
  /-- a container that somebody else holds, read only -/
  | bor (c : Cn)
  /-- an object of the store -/
  | obj (n : Nat)
  /-- a list of the caller's that the object itself is told of (the script) -/
  | scr (ds : List D)
def Drv (K : Kx) (F : Hp) : List (Key × V) → List (Key × D) → Prop := Paired fun p q => p.1 = q.1 ∧ Dr K F p.2 q.2
inductive CnR (K : Kx) (F : Hp) : HO → Cn → Prop
  | lst {xs : List V} {ds : List D} : Drs K F xs ds → CnR K F (.lst xs) (.lst ds)
  | dk {kvs : List (Key × V)} {ds : List (Key × D)} : Drv K F kvs ds → CnR K F (.dK kvs) (.dk ds)
theorem Paired.mapR {α β : Type} {R S : α → β → Prop} (f : ∀ a b, R a b → S a b) : ∀ {l : List α} {m : List β}, Paired R l m → Paired S l m
  | _, _, .nil => .nil
  | _, _, .cons r t => .cons (f _ _ r) (Paired.mapR f t)
theorem CnR.mono {K : Kx} {F H : Hp} (s : Same F H) {o : HO} {c : Cn} (h : CnR K F o c) : CnR K H o c := by
  cases h with
  | lst a => exact .lst (Drs.mono s _ _ a)
  | dk a => exact .dk (Paired.mapR (fun p q r => ⟨r.1, Dr.mono s _ _ r.2⟩) a)

/-- an error's class and own dict, made of d -/
def ErD (X : Kx) (F : Hp) (cls : Value) (dd : Option Addr) (c : Nat) (d : D) : Prop := ∃ (C : Addr) (f : Str) (e : Addr) (v : V), X.ec[c]? = some (C, f) ∧ cls = .ref C ∧ dd = some e ∧ F e = some (.xd [(f, v)]) ∧ Dr X F v d

abbrev Env := List (Option Val)
/-- a value in the heap -/
inductive VR (X : Kx) (F : Hp) (os : List Addr) (H : Hp) : V → Val → Prop
  | dat {v : V} {d : D} : Dr X F v d → VR X F os H v (.dat d)
  | fr {p : Addr} {o : HO} {c : Cn} : F p = none → p ∉ os → H p = some o → CnR X F o c → VR X F os H (.ref p) (.fr c)
  | bor {p : Addr} {o : HO} {c : Cn} : F p = none → p ∉ os → H p = some o → CnR X F o c → VR X F os H (.ref p) (.bor c)
  | obj {p : Addr} {n : Nat} : os[n]? = some p → VR X F os H (.ref p) (.obj n)
  | scr {p : Addr} {xs : List V} {ds : List D} : SqL X.K F p xs → Drs X F xs ds → VR X F os H (.ref p) (.scr ds)

/-- the store, and the frozen part within the heap -/
structure StOk (X : Kx) (F : Hp) (os : List Addr) (H : Hp) (st : List Cn) : Prop where
  sub : Same F H
  len : os.length = st.length
  stv : ∀ (n : Nat) (a : Addr) (c : Cn), os[n]? = some a → st[n]? = some c → F a = none ∧ ∃ o, H a = some o ∧ CnR X F o c
  nd : os.Nodup
/-- from one heap to a later one: what is frozen and what stands but the objects stays, what is newly frozen was not there -/
structure Ext (F : Hp) (os : List Addr) (H F' : Hp) (os' : List Addr) (H' : Hp) : Prop where
  fz : Same F F'
  keep : ∀ a o, H a = some o → a ∉ os → H' a = some o
  new : ∀ a o, F' a = some o → F a = some o ∨ H a = none
  os : ∃ m, os' = os ++ m ∧ ∀ a ∈ m, H a = none
  dom : ∀ a, H a ≠ none → H' a ≠ none
theorem Ext.refl (F : Hp) (os : List Addr) (H : Hp) : Ext F os H F os H := ⟨Same.refl F, fun _ _ h _ => h, fun _ _ h => .inl h, ⟨[], by simp, fun a h => by simp at h⟩, fun _ h => h⟩
theorem Ext.nn {F H F' H' : Hp} {os os' : List Addr} (e : Ext F os H F' os' H') {a : Addr} (h : H' a = Option.none) : H a = Option.none := Classical.byContradiction fun q => e.dom a q h
theorem Ext.trans {F H F1 H1 F2 H2 : Hp} {os os1 os2 : List Addr} (a : Ext F os H F1 os1 H1) (b : Ext F1 os1 H1 F2 os2 H2) : Ext F os H F2 os2 H2 where
  fz := a.fz.trans b.fz
  keep := fun x o h n => b.keep x o (a.keep x o h n) fun hm => by
    obtain ⟨m, e, hn⟩ := a.os
    rw [e] at hm
    rcases List.mem_append.mp hm with q | q
    · exact n q
    · rw [hn x q] at h; cases h
  new := fun x o h => by
    rcases b.new x o h with q | q
    · exact a.new x o q
    · exact .inr (a.nn q)
  os := by
    obtain ⟨m, e, hn⟩ := a.os
    obtain ⟨m', e', hn'⟩ := b.os
    refine ⟨m ++ m', by rw [e', e, List.append_assoc], fun x hx => ?_⟩
    rcases List.mem_append.mp hx with q | q
    · exact hn x q
    · exact a.nn (hn' x q)
  dom := fun x h => b.dom x (a.dom x h)
theorem Ext.fnone {F H F' H' : Hp} {os os' : List Addr} (e : Ext F os H F' os' H') {p : Addr} {o : HO} (hf : F p = Option.none) (hp : H p = some o) : F' p = Option.none := by
  cases q : F' p with
  | none => rfl
  | some u =>
    rcases e.new p u q with r | r
    · rw [hf] at r; cases r
    · rw [hp] at r; cases r
theorem Ext.nos {F H F' H' : Hp} {os os' : List Addr} (e : Ext F os H F' os' H') {p : Addr} {o : HO} (hf : p ∉ os) (hp : H p = some o) : p ∉ os' := by
  obtain ⟨m, e, hn⟩ := e.os
  rw [e]
  intro q
  rcases List.mem_append.mp q with q | q
  · exact hf q
  · rw [hn p q] at hp; cases hp
theorem VR.ext {X : Kx} {F H F' H' : Hp} {os os' : List Addr} (e : Ext F os H F' os' H') {v : V} {x : Val} (h : VR X F os H v x) : VR X F' os' H' v x := by
  cases h with
  | dat r => exact .dat (Dr.mono e.fz _ _ r)
  | fr a b c d => exact .fr (e.fnone a c) (e.nos b c) (e.keep _ _ c b) (d.mono e.fz)
  | bor a b c d => exact .bor (e.fnone a c) (e.nos b c) (e.keep _ _ c b) (d.mono e.fz)
  | obj a =>
    obtain ⟨m, q, _⟩ := e.os
    refine .obj ?_
    rw [q, List.getElem?_append_left (List.getElem?_eq_some_iff.mp a).1]
    exact a
  | scr a b => exact .scr (Same.sqL e.fz a) (Drs.mono e.fz _ _ b)

/-- the entry -/
structure Bs where
  F : Hp
  os : List Addr
  H : Hp
  /-- what has to stay -/
  P : Hp
structure Rel (X : Kx) (B : Bs) (F : Hp) (os : List Addr) (σ : L2.St) (H : Hp) (env : Env) (st : List Cn) : Prop where
  ok : StOk X F os H st
  len : env.length = σ.length
  slv : ∀ (i : Nat) (x : Val), env[i]? = some (some x) → ∃ v, σ[i]? = some (some v) ∧ VR X F os H v x
  own : ∀ (i j : Nat) (c c' : Cn) (p : Addr), i ≠ j → env[i]? = some (some (.fr c)) → env[j]? = some (some (.fr c')) → σ[i]? = some (some (.ref p)) → σ[j]? ≠ some (some (.ref p))
  ownB : ∀ (i : Nat) (c : Cn) (p : Addr), env[i]? = some (some (.fr c)) → σ[i]? = some (some (.ref p)) → B.H p = none
  borB : ∀ (i : Nat) (c : Cn) (p : Addr), env[i]? = some (some (.bor c)) → σ[i]? = some (some (.ref p)) → B.H p ≠ none
  bs : Ext B.F B.os B.H F os H
  pin : Same B.P F
theorem Rel.ext {X : Kx} {B : Bs} {F H F' H' : Hp} {os os' : List Addr} {σ : L2.St} {env : Env} {st st' : List Cn} (r : Rel X B F os σ H env st) (e : Ext F os H F' os' H') (k : StOk X F' os' H' st') : Rel X B F' os' σ H' env st' where
  ok := k
  len := r.len
  slv := fun i x h => by
    obtain ⟨v, a, b⟩ := r.slv i x h
    exact ⟨v, a, b.ext e⟩
  own := r.own
  ownB := r.ownB
  borB := r.borB
  bs := r.bs.trans e
  pin := r.pin.trans e.fz
end Pl

set_option Elab.async false
set_option linter.all false
set_option maxRecDepth 100000
set_option maxHeartbeats 4000000
namespace Pl
open PySem PySem.Spec PyProof.Rows L2

/-! ### what an expression comes to -/
inductive Ou where
  | stk
  | ok (v : Val) (st : List Cn)
  | exc (c : Nat) (d : D) (st : List Cn)
abbrev EM := Env → List Cn → Ou
def Ou.bind (o : Ou) (k : Val → List Cn → Ou) : Ou := match o with
  | .stk => .stk
  | .ok v st => k v st
  | .exc c d st => .exc c d st
def Ou.of (st : List Cn) : Option Val → Ou
  | none => .stk
  | some v => .ok v st
@[simp] theorem Ou.bind_stk (k) : Ou.stk.bind k = .stk := rfl
@[simp] theorem Ou.bind_ok (v st k) : (Ou.ok v st).bind k = k v st := rfl
@[simp] theorem Ou.bind_exc (c d st k) : (Ou.exc c d st).bind k = .exc c d st := rfl
@[simp] theorem Ou.of_some (st v) : Ou.of st (some v) = .ok v st := rfl
@[simp] theorem Ou.of_none (st) : Ou.of st none = .stk := rfl

/-- a fresh container is not of the elder heap -/
def Frs (H : Hp) (x : V) (v : Val) : Prop := ∀ c p, v = .fr c → x = .ref p → H p = none
def Po (X : Kx) (W : WX) (σ : L2.St) (F : Hp) (os : List Addr) (H : Hp) (o : Ou) (Q : VK) : Prop := match o with
  | .stk => False
  | .ok v st => ∀ x F' os' H', Ext F os H F' os' H' → StOk X F' os' H' st → VR X F' os' H' x v → Frs H x v → Q x H'
  | .exc c d st => ∀ cls dd F' os' H', Ext F os H F' os' H' → StOk X F' os' H' st → ErD X F' cls dd c d → W cls dd σ H'
def tM (X : Kx) (W : WX) (m : EM) : TE := fun σ H Q => ∃ B F os env st, Rel X B F os σ H env st ∧ Po X W σ F os H (m env st) Q

theorem _root_.L2.PE.imp {X : Cx} {e : Expr} {t t' : TE} (h : PE X e t) (i : ∀ σ H Q, t' σ H Q → t σ H Q) : PE X e t' := ⟨fun pins s σ H Q I q => h.run pins s σ H Q I (i _ _ _ q)⟩
theorem _root_.L2.PT.imp {X : Cx} {e : Expr} {t t' : TT} (h : PT X e t) (i : ∀ σ H Q, t' σ H Q → t σ H Q) : PT X e t' := ⟨fun pins s σ H Q I q => h.run pins s σ H Q I (i _ _ _ q)⟩
theorem _root_.L2.PW.imp {X : Cx} {e : Expr} {t t' : TT} (h : PW X e t) (i : ∀ σ H Q, t' σ H Q → t σ H Q) : PW X e t' := ⟨fun wh pins s σ H Q I q => h.run wh pins s σ H Q I (i _ _ _ q)⟩
theorem _root_.L2.PA.imp {X : Cx} {e : List Expr} {t t' : TA} (h : PA X e t) (i : ∀ σ H Q, t' σ H Q → t σ H Q) : PA X e t' := ⟨fun pos pins s σ H Q I q => h.run pos pins s σ H Q I (i _ _ _ q)⟩
theorem _root_.L2.PS.imp {X : Cx} {e : Stmt} {t t' : TS} (h : PS X e t) (i : ∀ D σ H, t' D σ H → t D σ H) : PS X e t' := ⟨fun pins s σ H D I q => h.run pins s σ H D I (i _ _ _ q)⟩
theorem _root_.L2.PSs.imp {X : Cx} {e : List Stmt} {t t' : TS} (h : PSs X e t) (i : ∀ D σ H, t' D σ H → t D σ H) : PSs X e t' := ⟨fun pins s σ H D I q => h.run pins s σ H D I (i _ _ _ q)⟩

section
variable {X : Kx} {W : WX} {σ : L2.St} {F F' H H' : Hp} {os os' : List Addr} {st : List Cn}
theorem StOk.live (k : StOk X F os H st) {a : Addr} (h : a ∈ os) : ∃ o, H a = some o ∧ F a = none := by
  obtain ⟨n, hn, e⟩ := List.getElem_of_mem h
  have h1 : os[n]? = some a := by rw [List.getElem?_eq_getElem hn, e]
  have h2 : n < st.length := by rw [← k.len]; exact hn
  obtain ⟨f, o, q, _⟩ := k.stv n a st[n] h1 (List.getElem?_eq_getElem h2)
  exact ⟨o, q, f⟩
theorem StOk.free (k : StOk X F os H st) {a : Addr} (h : H a = none) : a ∉ os ∧ F a = none := by
  refine ⟨fun q => ?_, L2.Same.free k.sub h⟩
  obtain ⟨o, e, _⟩ := k.live q
  rw [h] at e
  cases e
theorem Po.shift (e : Ext F os H F' os' H') {o : Ou} {Q : VK} (h : Po X W σ F os H o Q) : Po X W σ F' os' H' o Q := by
  cases o with
  | stk => exact h
  | ok v st => exact fun x F2 os2 H2 e2 k r f => h x F2 os2 H2 (e.trans e2) k r fun c p ev ex => e.nn (f c p ev ex)
  | exc c d st => exact fun cls dd F2 os2 H2 e2 k r => h cls dd F2 os2 H2 (e.trans e2) k r
theorem Po.bind {o : Ou} {k : Val → List Cn → Ou} {Q Q1 : VK} (h : Po X W σ F os H (o.bind k) Q)
    (hk : ∀ v st1 x F1 os1 H1, o = .ok v st1 → Ext F os H F1 os1 H1 → StOk X F1 os1 H1 st1 → VR X F1 os1 H1 x v → Frs H x v → Po X W σ F os H (k v st1) Q → Q1 x H1) : Po X W σ F os H o Q1 := by
  cases o with
  | stk => exact h
  | ok v st => exact fun x F1 os1 H1 e q r f => hk v st x F1 os1 H1 rfl e q r f h
  | exc c d st => exact h
theorem Po.mono {o : Ou} {Q Q1 : VK} (h : Po X W σ F os H o Q) (hq : ∀ x H', Q x H' → Q1 x H') : Po X W σ F os H o Q1 := by
  cases o with
  | stk => exact h
  | ok v st => exact fun x F1 os1 H1 e q r f => hq _ _ (h x F1 os1 H1 e q r f)
  | exc c d st => exact h
/-- the end of a pure step -/
theorem Po.of {z : Option Val} {Q : VK} (h : Po X W σ F os H (Ou.of st z) Q) : ∃ v, z = some v ∧ ∀ x F' os' H', Ext F os H F' os' H' → StOk X F' os' H' st → VR X F' os' H' x v → Frs H x v → Q x H' := by
  cases z with
  | none => exact False.elim h
  | some v => exact ⟨v, rfl, h⟩

/-! ### new objects -/
theorem upd_none {a : Addr} {o : HO} {b : Addr} (h : upd H a o b = none) : H b = none ∧ b ≠ a := by
  by_cases e : b = a
  · subst e; rw [upd_same] at h; cases h
  · rw [upd_ne e] at h; exact ⟨h, e⟩
theorem upd_ne_none {a : Addr} {o : HO} {b : Addr} (h : H b ≠ none) : upd H a o b ≠ none := by
  by_cases e : b = a
  · subst e; rw [upd_same]; exact fun z => nomatch z
  · rw [upd_ne e]; exact h
theorem same_upd {a : Addr} {o : HO} (h : H a = none) : Same H (upd H a o) := fun b u e => by
  rw [upd_ne (ne_of_none e h)]; exact e
/-- a new frozen object -/
theorem Ext.newF {p : Addr} {o : HO} (k : StOk X F os H st) (hp : H p = none) : Ext F os H (upd F p o) os (upd H p o) where
  fz := same_upd (k.free hp).2
  keep := fun a u h _ => same_upd hp _ _ h
  new := fun a u h => by
    by_cases e : a = p
    · exact .inr (e ▸ hp)
    · rw [upd_ne e] at h; exact .inl h
  os := ⟨[], by simp, fun a h => by simp at h⟩
  dom := fun a h => upd_ne_none h
theorem StOk.newF {p : Addr} {o : HO} (k : StOk X F os H st) (hp : H p = none) : StOk X (upd F p o) os (upd H p o) st where
  sub := fun a u h => by
    by_cases e : a = p
    · subst e; rw [upd_same] at h ⊢; exact h
    · rw [upd_ne e] at h ⊢; exact k.sub _ _ h
  len := k.len
  stv := fun n a c h1 h2 => by
    obtain ⟨f, u, q, r⟩ := k.stv n a c h1 h2
    have ne : a ≠ p := ne_of_none q hp
    exact ⟨by rw [upd_ne ne]; exact f, u, by rw [upd_ne ne]; exact q, r.mono (same_upd (k.free hp).2)⟩
  nd := k.nd
/-- a new object of its own -/
theorem Ext.newO {p : Addr} {o : HO} (k : StOk X F os H st) (hp : H p = none) : Ext F os H F os (upd H p o) where
  fz := L2.Same.refl F
  keep := fun a u h _ => same_upd hp _ _ h
  new := fun a u h => .inl h
  os := ⟨[], by simp, fun a h => by simp at h⟩
  dom := fun a h => upd_ne_none h
theorem StOk.newO {p : Addr} {o : HO} (k : StOk X F os H st) (hp : H p = none) : StOk X F os (upd H p o) st where
  sub := k.sub.trans (same_upd hp)
  len := k.len
  stv := fun n a c h1 h2 => by
    obtain ⟨f, u, q, r⟩ := k.stv n a c h1 h2
    exact ⟨f, u, same_upd hp _ _ q, r⟩
  nd := k.nd
theorem VR.newTup {p : Addr} {xs : List V} {ds : List D} (k : StOk X F os H st) (hp : H p = none) (r : Drs X F xs ds) : VR X (upd F p (.tup xs)) os (upd H p (.tup xs)) (.ref p) (.dat (.tuple ds)) :=
  .dat (.tup (SqT.of upd_same) (Drs.mono (same_upd (k.free hp).2) _ _ r))
theorem VR.newLst {p : Addr} {xs : List V} {ds : List D} (k : StOk X F os H st) (hp : H p = none) (r : Drs X F xs ds) : VR X F os (upd H p (.lst xs)) (.ref p) (.fr (.lst ds)) :=
  .fr (k.free hp).2 (k.free hp).1 upd_same (.lst r)
theorem Frs.dat {x : V} {d : D} : Frs H x (.dat d) := fun _ _ h _ => nomatch h
theorem Frs.new {p : Addr} {v : Val} (hp : H p = none) : Frs H (.ref p) v := fun _ q _ h => by cases h; exact hp

/-! ### freezing -/
def kyD : Key → D
  | .inl i => .int i
  | .inr x => .str x
def cnD : Cn → D
  | .lst ds => .list ds
  | .dk kvs => .dict (kvs.map fun p => (kyD p.1, p.2))
def asDat : Val → Option D
  | .dat d => some d
  | .fr c => some (cnD c)
  | _ => none
def Val.frz : Val → Option Val
  | .dat d => some (.dat d)
  | .fr c => some (.dat (cnD c))
  | .obj n => some (.obj n)
  | .bor c => some (.bor c)
  | .scr ds => some (.scr ds)
theorem kyD_ok {K : Kx} {F : Hp} : ∀ k : Key, Dr K F (kV k) (kyD k)
  | .inl i => .int i
  | .inr x => .str x
theorem drk_of {K : Kx} {F : Hp} : ∀ {kvs : List (Key × V)} {ds : List (Key × D)}, Drv K F kvs ds → Drk K F kvs (ds.map fun p => (kyD p.1, p.2))
  | _, _, .nil => .nil
  | _, _, .cons (a := p) (b := q) r t => by
    obtain ⟨k, v⟩ := p
    obtain ⟨k', d⟩ := q
    obtain ⟨e, r⟩ := r
    dsimp only at e r
    subst e
    exact .cons (kyD_ok k) r (drk_of t)
theorem CnR.dr {K : Kx} {F : Hp} {p : Addr} {o : HO} {c : Cn} (h : F p = some o) (r : CnR K F o c) : Dr K F (.ref p) (cnD c) := by
  cases r with
  | lst r => exact .lst h r
  | dk r => exact .dct h (drk_of r)
/-- what is fresh is frozen -/
theorem freeze {F0 H0 : Hp} {os0 : List Addr} (e : Ext F0 os0 H0 F os H) (k : StOk X F os H st) {p : Addr} {o : HO} {c : Cn} (hp : H p = some o) (h0 : H0 p = none) (hf : F p = none) (ho : p ∉ os) (r : CnR X F o c) :
    Ext F0 os0 H0 (upd F p o) os H ∧ StOk X (upd F p o) os H st ∧ Dr X (upd F p o) (.ref p) (cnD c) := by
  have s := same_upd (o := o) hf
  refine ⟨⟨e.fz.trans s, e.keep, fun a u h => ?_, e.os, e.dom⟩, ⟨fun a u h => ?_, k.len, fun n a c h1 h2 => ?_, k.nd⟩, (r.mono s).dr upd_same⟩
  · by_cases q : a = p
    · exact .inr (q ▸ h0)
    · rw [upd_ne q] at h; exact e.new a u h
  · by_cases q : a = p
    · subst q; rw [upd_same] at h; cases h; exact hp
    · rw [upd_ne q] at h; exact k.sub _ _ h
  · obtain ⟨f, u, q, r'⟩ := k.stv n a c h1 h2
    have ne : a ≠ p := fun z => ho (z ▸ List.mem_of_getElem? h1)
    exact ⟨by rw [upd_ne ne]; exact f, u, q, r'.mono s⟩
/-- a value handed on: what is fresh is frozen -/
def frzM (m : EM) : EM := fun env st => (m env st).bind fun v st1 => Ou.of st1 v.frz
theorem tM_frz {m : EM} {Q : VK} (h : tM X W (frzM m) σ H Q) : tM X W m σ H Q := by
  obtain ⟨B, F, os, env, st, R, h⟩ := h
  refine ⟨B, F, os, env, st, R, h.bind ?_⟩
  intro v st1 x F1 os1 H1 ev e k r f p
  obtain ⟨z, hz, q⟩ := p.of
  cases r with
  | dat r => cases hz; exact q _ _ _ _ e k (.dat r) Frs.dat
  | fr a b c d =>
    cases hz
    obtain ⟨e2, k2, r2⟩ := freeze e k c (f _ _ rfl rfl) a b d
    exact q _ _ _ _ e2 k2 (.dat r2) Frs.dat
  | bor a b c d => cases hz; exact q _ _ _ _ e k (.bor a b c d) fun _ _ h _ => nomatch h
  | obj a => cases hz; exact q _ _ _ _ e k (.obj a) fun _ _ h _ => nomatch h
  | scr a b => cases hz; exact q _ _ _ _ e k (.scr a b) fun _ _ h _ => nomatch h
end

section
variable {X : Cx} {ec : List (Addr × Str)} {W : WX} {e a b : Expr} {ma mb m : EM} {pos : Pos}
abbrev kx (X : Cx) (ec : List (Addr × Str)) : Kx := ⟨X.K, ec⟩
theorem pe_frz (h : PE X e (tM (kx X ec) W m)) : PE X e (tM (kx X ec) W (frzM m)) := h.imp fun _ _ _ => tM_frz

/-! ### names, constants -/
def varM (i : Nat) : EM := fun env st => match env[i]? with
  | some (some (.fr c)) => .ok (.bor c) st
  | some (some v) => .ok v st
  | _ => .stk
theorem var_ok {K : Kx} {i : Nat} {σ : L2.St} {H : Hp} {Q : VK} (h : tM K W (varM i) σ H Q) : tVar i σ H Q := by
  obtain ⟨B, F, os, env, st, R, h⟩ := h
  unfold varM at h
  split at h
  · rename_i c hc
    obtain ⟨x, e, r⟩ := R.slv i _ hc
    cases r with
    | fr a b c d => exact ⟨_, e, h _ _ _ _ (Ext.refl _ _ _) R.ok (.bor a b c d) fun _ _ h _ => nomatch h⟩
  · rename_i v hn hv
    obtain ⟨x, e, r⟩ := R.slv i _ hv
    refine ⟨_, e, h _ _ _ _ (Ext.refl _ _ _) R.ok r fun c p ev _ => ?_⟩
    subst ev
    exact absurd rfl (hn c)
  · exact False.elim h
theorem pe_v (i : Nat) {x : Str} {pos : Pos} (hN : X.N[i]? = some x := by rfl) (hv : Vis X.env.scope x := by first | exact Or.inl rfl | exact Or.inr (Or.inl rfl) | exact Or.inr (Or.inr rfl)) (hd : (x == ("__debug__" : Str)) = false := by decide)
    (hcd : (x == ("__classdict__" : Str)) = false := by decide) : PE X (.Name x pos) (tM (kx X ec) W (varM i)) := (pv i hN hv hd hcd).imp fun _ _ _ => var_ok
def cstM (d : D) : EM := fun _ st => .ok (.dat d) st
theorem cst_ok {K : Kx} {v : V} {d : D} (r : ∀ F, Dr K F v d) {σ : L2.St} {H : Hp} {Q : VK} (h : tM K W (cstM d) σ H Q) : tC v σ H Q := by
  obtain ⟨B, F, os, env, st, R, h⟩ := h
  exact h _ _ _ _ (Ext.refl _ _ _) R.ok (.dat (r F)) Frs.dat
theorem pe_ci {i : Int} {j pos} : PE X (.Constant (.int i) j pos) (tM (kx X ec) W (cstM (.int i))) := pe_int.imp fun _ _ _ => cst_ok fun _ => .int i
theorem pe_cb {b : Bool} {j pos} : PE X (.Constant (.bool b) j pos) (tM (kx X ec) W (cstM (.bool b))) := pe_bl.imp fun _ _ _ => cst_ok fun _ => .bl b
theorem pe_cn {j pos} : PE X (.Constant .none j pos) (tM (kx X ec) W (cstM .none)) := pe_non.imp fun _ _ _ => cst_ok fun _ => .non
theorem pe_cs {x : Str} {j pos} : PE X (.Constant (.str x) j pos) (tM (kx X ec) W (cstM (.str x))) := L2.pe_str.imp fun _ _ _ => cst_ok fun _ => .str x
/-- a constant of the module -/
theorem pe_gi {x : Str} {i : Int} {t : Tok} {pos : Pos} (hg : Gl X x) (hm : X.mg x = some (.int i t)) (hd : (x == ("__debug__" : Str)) = false := by decide) : PE X (.Name x pos) (tM (kx X ec) W (cstM (.int i))) :=
  (pe_glob hg hm (v := .int i) ⟨_, rfl⟩ hd).imp fun _ _ _ => cst_ok fun _ => .int i

/-! ### two operands -/
def binM (g : Val → Val → Option Val) (ma mb : EM) : EM := fun env st => (ma env st).bind fun v st1 => (mb env st1).bind fun w st2 => Ou.of st2 (g v w)
/-- by values: r serves what g tells -/
def Snd2 (K : Kx) (r : R2) (g : Val → Val → Option Val) : Prop := ∀ F os H st x y v w z Q, StOk K F os H st → VR K F os H x v → VR K F os H y w → g v w = some z →
  (∀ x' F' H', Ext F os H F' os H' → StOk K F' os H' st → VR K F' os H' x' z → Frs H x' z → Q x' H') → r x y H Q
theorem Snd2.or {K : Kx} {r r' : R2} {g g' : Val → Val → Option Val} (h : Snd2 K r g) (h' : Snd2 K r' g') : Snd2 K (fun x y H Q => r x y H Q ∨ r' x y H Q) (fun v w => (g v w).or (g' v w)) := by
  intro F os H st x y v w z Q k rx ry e q
  cases eg : g v w with
  | some u =>
    have e' : u = z := by
      dsimp only at e
      rw [eg] at e
      simpa using e
    subst e'
    exact .inl (h F os H st x y v w u Q k rx ry eg q)
  | none =>
    have e' : g' v w = some z := by
      dsimp only at e
      rw [eg] at e
      simpa using e
    exact .inr (h' F os H st x y v w z Q k rx ry e' q)
theorem bin_ok {K : Kx} {r : R2} {g : Val → Val → Option Val} (hs : Snd2 K r g) {σ : L2.St} {H : Hp} {Q : VK} (h : tM K W (binM g ma mb) σ H Q) : tOp r (tM K W ma) (tM K W mb) σ H Q := by
  obtain ⟨B, F, os, env, st, R, h⟩ := h
  refine ⟨B, F, os, env, st, R, h.bind ?_⟩
  intro v st1 x F1 os1 H1 ev e1 k1 r1 f1 p1
  refine ⟨B, F1, os1, env, st1, R.ext e1 k1, (p1.shift e1).bind ?_⟩
  intro w st2 y F2 os2 H2 ew e2 k2 r2 f2 p2
  obtain ⟨z, hz, q⟩ := p2.of
  refine hs F2 os2 H2 st2 x y v w z Q k2 (r1.ext e2) r2 hz fun x' F' H' e k r f => q x' F' os2 H' (e2.trans e) k r fun c p ev ex => e2.nn (f c p ev ex)
theorem pe_bin {op : Operator} {r : R2} {g : Val → Val → Option Val} (ho : OpR X (binaryOp op) r) (hs : Snd2 (kx X ec) r g) (ha : PE X a (tM (kx X ec) W ma)) (hb : PE X b (tM (kx X ec) W mb)) : PE X (.BinOp a op b pos) (tM (kx X ec) W (binM g ma mb)) :=
  (pe_op ho ha hb).imp fun _ _ _ => bin_ok hs
theorem pe_cmpb {op : CmpOp} {r : R2} {g : Val → Val → Option Val} (ho : OpR X (compareOp op) r) (hs : Snd2 (kx X ec) r g) (ha : PE X a (tM (kx X ec) W ma)) (hb : PE X b (tM (kx X ec) W mb)) (hm : behindInMarks op b = false) : PE X (.Compare a [op] [b] pos) (tM (kx X ec) W (binM g ma mb)) :=
  (pe_cmpR ho ha hb hm).imp fun _ _ _ => bin_ok hs
theorem pe_sub {r : R2} {g : Val → Val → Option Val} (ho : IxR X r) (hs : Snd2 (kx X ec) r g) (ha : PE X a (tM (kx X ec) W ma)) (hb : PE X b (tM (kx X ec) W mb)) (hp : PlainIx b) : PE X (.Subscript a b pos) (tM (kx X ec) W (binM g ma mb)) :=
  (pe_ix ho ha hb hp).imp fun _ _ _ => bin_ok hs
/-! ### one operand -/
def unM (g : Val → Option Val) (ma : EM) : EM := fun env st => (ma env st).bind fun v st1 => Ou.of st1 (g v)
def Snd1 (K : Kx) (r : V → Hp → VK → Prop) (g : Val → Option Val) : Prop := ∀ F os H st x v z Q, StOk K F os H st → VR K F os H x v → g v = some z →
  (∀ x' F' H', Ext F os H F' os H' → StOk K F' os H' st → VR K F' os H' x' z → Frs H x' z → Q x' H') → r x H Q
theorem un_ok {K : Kx} {r : V → Hp → VK → Prop} {g : Val → Option Val} (hs : Snd1 K r g) {σ : L2.St} {H : Hp} {Q : VK} (h : tM K W (unM g ma) σ H Q) : tM K W ma σ H fun x H1 => r x H1 Q := by
  obtain ⟨B, F, os, env, st, R, h⟩ := h
  refine ⟨B, F, os, env, st, R, h.bind ?_⟩
  intro v st1 x F1 os1 H1 ev e1 k1 r1 f1 p1
  obtain ⟨z, hz, q⟩ := p1.of
  exact hs F1 os1 H1 st1 x v z Q k1 r1 hz fun x' F' H' e k r f => q x' F' os1 H' (e1.trans e) k r fun c p ev ex => e1.nn (f c p ev ex)
theorem pe_unM {op : UnaryOp} {r : V → Hp → VK → Prop} {g : Val → Option Val} (ho : UnR X (unaryOp op) r) (hs : Snd1 (kx X ec) r g) (ha : PE X a (tM (kx X ec) W ma)) : PE X (.UnaryOp op a pos) (tM (kx X ec) W (unM g ma)) :=
  (pe_un ho ha).imp fun _ _ _ => un_ok hs

/-! ### arguments -/
inductive OuL where
  | stk
  | ok (vs : List Val) (st : List Cn)
  | exc (c : Nat) (d : D) (st : List Cn)
abbrev AM := Env → List Cn → OuL
def OuL.bind (o : OuL) (k : List Val → List Cn → Ou) : Ou := match o with
  | .stk => .stk
  | .ok v st => k v st
  | .exc c d st => .exc c d st
def Ou.bindL (o : Ou) (k : Val → List Cn → OuL) : OuL := match o with
  | .stk => .stk
  | .ok v st => k v st
  | .exc c d st => .exc c d st
def OuL.bindL (o : OuL) (k : List Val → List Cn → OuL) : OuL := match o with
  | .stk => .stk
  | .ok v st => k v st
  | .exc c d st => .exc c d st
@[simp] theorem OuL.bind_stk (k) : OuL.stk.bind k = .stk := rfl
@[simp] theorem OuL.bind_ok (v st k) : (OuL.ok v st).bind k = k v st := rfl
@[simp] theorem OuL.bind_exc (c d st k) : (OuL.exc c d st).bind k = .exc c d st := rfl
@[simp] theorem Ou.bindL_stk (k) : Ou.stk.bindL k = .stk := rfl
@[simp] theorem Ou.bindL_ok (v st k) : (Ou.ok v st).bindL k = k v st := rfl
@[simp] theorem Ou.bindL_exc (c d st k) : (Ou.exc c d st).bindL k = .exc c d st := rfl
@[simp] theorem OuL.bindL_stk (k) : OuL.stk.bindL k = .stk := rfl
@[simp] theorem OuL.bindL_ok (v st k) : (OuL.ok v st).bindL k = k v st := rfl
@[simp] theorem OuL.bindL_exc (c d st k) : (OuL.exc c d st).bindL k = .exc c d st := rfl
inductive VRs (K : Kx) (F : Hp) (os : List Addr) (H : Hp) : List V → List Val → Prop
  | nil : VRs K F os H [] []
  | cons {x xs v vs} : VR K F os H x v → VRs K F os H xs vs → VRs K F os H (x :: xs) (v :: vs)
theorem VRs.ext {K : Kx} {F H F' H' : Hp} {os os' : List Addr} (e : Ext F os H F' os' H') : ∀ {vs : List V} {xs : List Val}, VRs K F os H vs xs → VRs K F' os' H' vs xs
  | _, _, .nil => .nil
  | _, _, .cons r t => .cons (r.ext e) (VRs.ext e t)
def nofr : Val → Bool
  | .fr _ => false
  | _ => true
def PoL (K : Kx) (W : WX) (σ : L2.St) (F : Hp) (os : List Addr) (H : Hp) (o : OuL) (Q : List V → Hp → Prop) : Prop := match o with
  | .stk => False
  | .ok vs st => ∀ xs F' os' H', Ext F os H F' os' H' → StOk K F' os' H' st → VRs K F' os' H' xs vs → vs.all nofr = true → Q xs H'
  | .exc c d st => ∀ cls dd F' os' H', Ext F os H F' os' H' → StOk K F' os' H' st → ErD K F' cls dd c d → W cls dd σ H'
def tA (K : Kx) (W : WX) (m : AM) : TA := fun σ H Q => ∃ B F os env st, Rel K B F os σ H env st ∧ PoL K W σ F os H (m env st) Q
theorem PoL.shift {K : Kx} {σ : L2.St} {F H F' H' : Hp} {os os' : List Addr} (e : Ext F os H F' os' H') {o : OuL} {Q : List V → Hp → Prop} (h : PoL K W σ F os H o Q) : PoL K W σ F' os' H' o Q := by
  cases o with
  | stk => exact h
  | ok v st => exact fun x F2 os2 H2 e2 k r f => h x F2 os2 H2 (e.trans e2) k r f
  | exc c d st => exact fun cls dd F2 os2 H2 e2 k r => h cls dd F2 os2 H2 (e.trans e2) k r
theorem PoL.bind {K : Kx} {σ : L2.St} {F H : Hp} {os : List Addr} {o : OuL} {k : List Val → List Cn → Ou} {Q : VK} {Q1 : List V → Hp → Prop} (h : Po K W σ F os H (o.bind k) Q)
    (hk : ∀ v st1 x F1 os1 H1, o = .ok v st1 → Ext F os H F1 os1 H1 → StOk K F1 os1 H1 st1 → VRs K F1 os1 H1 x v → v.all nofr = true → Po K W σ F os H (k v st1) Q → Q1 x H1) : PoL K W σ F os H o Q1 := by
  cases o with
  | stk => exact h
  | ok v st => exact fun x F1 os1 H1 e q r f => hk v st x F1 os1 H1 rfl e q r f h
  | exc c d st => exact h
def anil : AM := fun _ st => .ok [] st
def acons (m : EM) (r : AM) : AM := fun env st => (m env st).bindL fun v st1 => match v.frz with
  | none => .stk
  | some w => (r env st1).bindL fun vs st2 => .ok (w :: vs) st2
theorem pa_n : PA X [] (tA (kx X ec) W anil) := pa_nil.imp fun σ H Q h => by
  obtain ⟨B, F, os, env, st, R, h⟩ := h
  exact h [] F os H (Ext.refl _ _ _) R.ok .nil rfl
theorem frz_nofr {v w : Val} (h : v.frz = some w) : nofr w = true := by
  cases v <;> simp only [Val.frz] at h <;> cases h <;> rfl
theorem acons_ok {K : Kx} {r : AM} {σ : L2.St} {H : Hp} {Q : List V → Hp → Prop} (h : tA K W (acons m r) σ H Q) : tCons (tM K W (frzM m)) (tA K W r) σ H Q := by
  obtain ⟨B, F, os, env, st, R, h⟩ := h
  refine ⟨B, F, os, env, st, R, ?_⟩
  unfold acons at h
  unfold frzM
  cases hm : m env st with
  | stk => rw [hm] at h; exact h
  | exc c d st1 => rw [hm] at h; exact h
  | ok v st1 =>
    rw [hm] at h
    dsimp only [Ou.bindL, Ou.bind] at h ⊢
    cases hv : v.frz with
    | none => rw [hv] at h; exact h
    | some w =>
      rw [hv] at h
      intro x F1 os1 H1 e1 k1 r1 f1
      refine ⟨B, F1, os1, env, st1, R.ext e1 k1, ?_⟩
      dsimp only at h
      cases hr : r env st1 with
      | stk => rw [hr] at h; exact h
      | exc c d st2 =>
        rw [hr] at h
        exact fun cls dd F2 os2 H2 e2 k2 r2 => h cls dd F2 os2 H2 (e1.trans e2) k2 r2
      | ok vs st2 =>
        rw [hr] at h
        exact fun xs F2 os2 H2 e2 k2 r2 f2 => h (x :: xs) F2 os2 H2 (e1.trans e2) k2 (.cons (r1.ext e2) r2) (by rw [List.all_cons, frz_nofr hv, f2]; rfl)
theorem pa_c {r : AM} {es : List Expr} (he : PE X e (tM (kx X ec) W m)) (hr : PA X es (tA (kx X ec) W r)) (hs : starEach (e :: es) X.env = (false, eval e X.env) :: starEach es X.env := by rfl) : PA X (e :: es) (tA (kx X ec) W (acons m r)) :=
  (pa_cons (pe_frz he) hr hs).imp fun _ _ _ => acons_ok

/-! ### displays -/
def dats : List Val → Option (List D)
  | [] => some []
  | .dat d :: r => (dats r).map (d :: ·)
  | _ :: _ => none
theorem dats_ok {K : Kx} {F H : Hp} {os : List Addr} : ∀ {vs : List Val} {xs : List V} {ds : List D}, VRs K F os H xs vs → dats vs = some ds → Drs K F xs ds
  | [], _, _, .nil, h => by cases h; exact .nil
  | .dat d :: r, _, ds, .cons (.dat a) b, h => by
    simp only [dats] at h
    cases e : dats r with
    | none => rw [e] at h; cases h
    | some es => rw [e] at h; cases h; exact .cons a (dats_ok b e)
def tupM (r : AM) : EM := fun env st => (r env st).bind fun vs st1 => Ou.of st1 (match dats vs with | some ds => if ds.length ≤ sizeLine then some (.dat (.tuple ds)) else none | none => none)
def lstM (r : AM) : EM := fun env st => (r env st).bind fun vs st1 => Ou.of st1 (match dats vs with | some ds => if ds.length ≤ sizeLine then some (.fr (.lst ds)) else none | none => none)
theorem pe_tu {r : AM} {es : List Expr} {x1} (h : PA X es (tA (kx X ec) W r)) : PE X (.Tuple es x1 pos) (tM (kx X ec) W (tupM r)) := (pe_tup h).imp fun σ H Q h => by
  obtain ⟨B, F, os, env, st, R, h⟩ := h
  refine ⟨B, F, os, env, st, R, PoL.bind h ?_⟩
  intro vs st1 xs F1 os1 H1 ev e1 k1 r1 n1 p1
  obtain ⟨z, hz, q⟩ := p1.of
  cases hd : dats vs with
  | none => rw [hd] at hz; cases hz
  | some ds =>
    rw [hd] at hz
    dsimp only at hz
    split at hz
    · rename_i hl
      cases hz
      have rd := dats_ok r1 hd
      refine ⟨by rw [rd.len]; exact hl, fun p hp => q _ _ _ _ (e1.trans (Ext.newF k1 hp)) (k1.newF hp) (VR.newTup k1 hp rd) Frs.dat⟩
    · cases hz
theorem pe_ls {r : AM} {es : List Expr} (h : PA X es (tA (kx X ec) W r)) : PE X (.List es pos) (tM (kx X ec) W (lstM r)) := (pe_lst h).imp fun σ H Q h => by
  obtain ⟨B, F, os, env, st, R, h⟩ := h
  refine ⟨B, F, os, env, st, R, PoL.bind h ?_⟩
  intro vs st1 xs F1 os1 H1 ev e1 k1 r1 n1 p1
  obtain ⟨z, hz, q⟩ := p1.of
  cases hd : dats vs with
  | none => rw [hd] at hz; cases hz
  | some ds =>
    rw [hd] at hz
    dsimp only at hz
    split at hz
    · rename_i hl
      cases hz
      have rd := dats_ok r1 hd
      refine ⟨by rw [rd.len]; exact hl, fun p hp => q _ _ _ _ (e1.trans (Ext.newO k1 hp)) (k1.newO hp) (VR.newLst k1 hp rd) (Frs.new (e1.nn hp))⟩
    · cases hz

/-! ### calls of what is built in -/
def callM (g : List Val → Option Val) (r : AM) : EM := fun env st => (r env st).bind fun vs st1 => Ou.of st1 (g vs)
def SndN (K : Kx) (r : List V → Hp → VK → Prop) (g : List Val → Option Val) : Prop := ∀ F os H st xs vs z Q, StOk K F os H st → VRs K F os H xs vs → g vs = some z →
  (∀ x' F' H', Ext F os H F' os H' → StOk K F' os H' st → VR K F' os H' x' z → Frs H x' z → Q x' H') → r xs H Q
theorem SndN.or {K : Kx} {r r' : List V → Hp → VK → Prop} {g g' : List Val → Option Val} (h : SndN K r g) (h' : SndN K r' g') : SndN K (fun xs H Q => r xs H Q ∨ r' xs H Q) (fun v => (g v).or (g' v)) := by
  intro F os H st xs v z Q k rx e q
  cases eg : g v with
  | some u =>
    have e' : u = z := by
      dsimp only at e
      rw [eg] at e
      simpa using e
    subst e'
    exact .inl (h F os H st xs v u Q k rx eg q)
  | none =>
    have e' : g' v = some z := by
      dsimp only at e
      rw [eg] at e
      simpa using e
    exact .inr (h' F os H st xs v z Q k rx e' q)
theorem call_ok {K : Kx} {g : List Val → Option Val} {r : List V → Hp → VK → Prop} {ra : AM} (hs : SndN K r g) {σ : L2.St} {H : Hp} {Q : VK} (h : tM K W (callM g ra) σ H Q) : tCB r (tA K W ra) σ H Q := by
  obtain ⟨B, F, os, env, st, R, h⟩ := h
  refine ⟨B, F, os, env, st, R, PoL.bind h ?_⟩
  intro vs st1 xs F1 os1 H1 ev e1 k1 r1 n1 p1
  obtain ⟨z, hz, q⟩ := p1.of
  exact hs F1 os1 H1 st1 xs vs z Q k1 r1 hz fun x' F' H' e k r f => q x' F' os1 H' (e1.trans e) k r fun c p ev ex => e1.nn (f c p ev ex)
theorem pe_cB {id : String} {g : List Val → Option Val} {r : List V → Hp → VK → Prop} {x : Str} {p : Pos} {es : List Expr} {ra : AM} (hc : CallR X (.builtin id) r) (hs : SndN (kx X ec) r g) (hg : Gl X x) (hm : X.mg x = none) (hv : bootBuiltins x = some (.builtin id)) (ha : PA X (e :: es) (tA (kx X ec) W ra))
    (hn : x ≠ "__name__" := by decide) (hdb : (x == ("__debug__" : Str)) = false := by decide)
    (he : starEach (e :: es) X.env = (false, eval e X.env) :: starEach es X.env := by rfl) (hpl : (backTo pos (starEach es X.env)).any (·.1) = false := by rfl) : PE X (.Call (.Name x p) (e :: es) [] pos) (tM (kx X ec) W (callM g ra)) :=
  (pe_callB hc hg hm hv ha hn hdb he hpl).imp fun _ _ _ => call_ok hs
theorem pe_cT {T : String} {g : List Val → Option Val} {r : List V → Hp → VK → Prop} {x : Str} {p : Pos} {es : List Expr} {ra : AM} (hc : CallR X (.type T) r) (hs : SndN (kx X ec) r g) (hg : Gl X x) (hm : X.mg x = none) (hv : bootBuiltins x = some (.type T)) (ha : PA X (e :: es) (tA (kx X ec) W ra))
    (hn : x ≠ "__name__" := by decide) (hdb : (x == ("__debug__" : Str)) = false := by decide)
    (he : starEach (e :: es) X.env = (false, eval e X.env) :: starEach es X.env := by rfl) (hpl : (backTo pos (starEach es X.env)).any (·.1) = false := by rfl) : PE X (.Call (.Name x p) (e :: es) [] pos) (tM (kx X ec) W (callM g ra)) :=
  (pe_callTy hc hg hm hv ha hn hdb he hpl).imp fun _ _ _ => call_ok hs
theorem pe_cF {id : String} {g : List Val → Option Val} {r : List V → Hp → VK → Prop} {x : Str} {p : Pos} {es : List Expr} {ra : AM} (hc : CallR X (.builtin id) r) (hs : SndN (kx X ec) r g) (hg : Gl X x) (hm : X.mg x = some (.builtin id)) (ha : PA X (e :: es) (tA (kx X ec) W ra)) (hdb : (x == ("__debug__" : Str)) = false := by decide)
    (he : starEach (e :: es) X.env = (false, eval e X.env) :: starEach es X.env := by rfl) (hpl : (backTo pos (starEach es X.env)).any (·.1) = false := by rfl) : PE X (.Call (.Name x p) (e :: es) [] pos) (tM (kx X ec) W (callM g ra)) :=
  (pe_callBfun hc hg hm ha hdb he hpl).imp fun _ _ _ => call_ok hs
end
end Pl

set_option Elab.async false
set_option linter.all false
set_option maxRecDepth 100000
set_option maxHeartbeats 4000000
namespace Pl
open PySem PySem.Spec PyProof.Rows L2

/-! ### views -/
def asList : Val → Option (List D)
  | .dat (.list ds) => some ds
  | .fr (.lst ds) => some ds
  | .bor (.lst ds) => some ds
  | _ => none
def asTup : Val → Option (List D)
  | .dat (.tuple ds) => some ds
  | _ => none
def asView : Val → Option D
  | .dat d => some d
  | .fr (.lst ds) => some (.list ds)
  | .bor (.lst ds) => some (.list ds)
  | _ => none
section
variable {K : Kx} {F H : Hp} {os : List Addr} {st : List Cn} {x : V} {v : Val}
theorem VR.list (k : StOk K F os H st) (r : VR K F os H x v) {ds : List D} (e : asList v = some ds) : ∃ p xs, x = .ref p ∧ H p = some (.lst xs) ∧ Drs K F xs ds := by
  cases r with
  | dat r =>
    cases r <;> simp only [asList] at e <;> try cases e
    rename_i a b
    exact ⟨_, _, rfl, k.sub _ _ a, b⟩
  | fr a b c d =>
    cases d with
    | lst d => cases e; exact ⟨_, _, rfl, c, d⟩
    | dk d => cases e
  | bor a b c d =>
    cases d with
    | lst d => cases e; exact ⟨_, _, rfl, c, d⟩
    | dk d => cases e
  | obj a => cases e
  | scr a b => cases e
theorem VR.tup (k : StOk K F os H st) (r : VR K F os H x v) {ds : List D} (e : asTup v = some ds) : v = .dat (.tuple ds) ∧ ∃ p xs, x = .ref p ∧ SqT K.K H p xs ∧ Drs K F xs ds := by
  cases r with
  | dat r =>
    cases r <;> simp only [asTup] at e <;> try cases e
    rename_i a b
    exact ⟨rfl, _, _, rfl, Same.sqT k.sub a, b⟩
  | fr a b c d => cases e
  | bor a b c d => cases e
  | obj a => cases e
  | scr a b => cases e
theorem VR.view (k : StOk K F os H st) (r : VR K F os H x v) {d : D} (e : asView v = some d) (n : d.hasDict = false) : Dp K.K H x d := by
  cases r with
  | dat r => cases e; exact Dr.dp k.sub _ _ n r
  | fr a b c r =>
    cases r with
    | lst r => cases e; exact .lst (SqL.of c) (Drs.dp k.sub _ _ (by simpa [PyData.hasDict] using n) r)
    | dk r => cases e
  | bor a b c r =>
    cases r with
    | lst r => cases e; exact .lst (SqL.of c) (Drs.dp k.sub _ _ (by simpa [PyData.hasDict] using n) r)
    | dk r => cases e
  | obj a => cases e
  | scr a b => cases e
theorem VR.int {i : Int} (r : VR K F os H x (.dat (.int i))) : x = .int i := by cases r with | dat r => cases r; rfl
theorem VR.bool {i : Bool} (r : VR K F os H x (.dat (.bool i))) : x = .bl i := by cases r with | dat r => cases r; rfl
theorem VR.str {i : Str} (r : VR K F os H x (.dat (.str i))) : x = .str i := by cases r with | dat r => cases r; rfl
end

/-! ### int, text arithmetic -/
def gII (c : Int → Int → Bool) (f : Int → Int → Int) : Val → Val → Option Val
  | .dat (.int i), .dat (.int j) => if c i j then some (.dat (.int (f i j))) else none
  | _, _ => none
def gIB (f : Int → Int → Bool) : Val → Val → Option Val
  | .dat (.int i), .dat (.int j) => some (.dat (.bool (f i j)))
  | _, _ => none
section
variable {K : Kx}
theorem snd_rI {C : Int → Int → Prop} {c : Int → Int → Bool} {f : Int → Int → Int} (hc : ∀ i j, c i j = true → C i j) : Snd2 K (rI C fun i j => .int (f i j)) (gII c f) := by
  intro F os H st x y v w z Q k rx ry e q
  unfold gII at e
  split at e
  · rename_i i j
    split at e
    · rename_i hcc
      cases e
      exact ⟨i, j, rx.int, ry.int, hc i j hcc, q _ F H (Ext.refl _ _ _) k (.dat (.int _)) Frs.dat⟩
    · cases e
  · cases e
theorem snd_rI0 {f : Int → Int → Int} : Snd2 K (rI0 fun i j => .int (f i j)) (gII (fun _ _ => true) f) := by
  intro F os H st x y v w z Q k rx ry e q
  unfold gII at e
  split at e
  · rename_i i j
    rw [if_pos rfl] at e
    cases e
    exact ⟨i, j, rx.int, ry.int, q _ F H (Ext.refl _ _ _) k (.dat (.int _)) Frs.dat⟩
  · cases e
theorem snd_rIB {f : Int → Int → Bool} : Snd2 K (rI0 fun i j => .bl (f i j)) (gIB f) := by
  intro F os H st x y v w z Q k rx ry e q
  unfold gIB at e
  split at e
  · rename_i i j
    cases e
    exact ⟨i, j, rx.int, ry.int, q _ F H (Ext.refl _ _ _) k (.dat (.bl _)) Frs.dat⟩
  · cases e
def gAddS : Val → Val → Option Val
  | .dat (.str i), .dat (.str j) => if i.length + j.length ≤ sizeLine then some (.dat (.str (i ++ j))) else none
  | _, _ => none
theorem snd_addS : Snd2 K (fun x y H Q => ∃ i j, x = .str i ∧ y = .str j ∧ i.length + j.length ≤ sizeLine ∧ Q (.str (i ++ j)) H) gAddS := by
  intro F os H st x y v w z Q k rx ry e q
  unfold gAddS at e
  split at e
  · rename_i i j
    split at e
    · rename_i hl
      cases e
      exact ⟨i, j, rx.str, ry.str, hl, q _ F H (Ext.refl _ _ _) k (.dat (.str _)) Frs.dat⟩
    · cases e
  · cases e
/-! ### lists and tuples put together -/
def gCatL (v w : Val) : Option Val := match asList v, asList w with
  | some a, some b => if a.length + b.length ≤ sizeLine then some (.fr (.lst (a ++ b))) else none
  | _, _ => none
theorem snd_catL : Snd2 K rCat gCatL := by
  intro F os H st x y v w z Q k rx ry e q
  unfold gCatL at e
  split at e
  · rename_i a b ha hb
    split at e
    · rename_i hl
      cases e
      obtain ⟨p, xs, rfl, h1, d1⟩ := rx.list k ha
      obtain ⟨p2, ys, rfl, h2, d2⟩ := ry.list k hb
      exact ⟨p, p2, xs, ys, rfl, rfl, h1, h2, by rw [d1.len, d2.len]; exact hl, fun r hr => q _ F _ (Ext.newO k hr) (k.newO hr) (VR.newLst k hr (d1.append d2)) (Frs.new hr)⟩
    · cases e
  · cases e
def gCatT (v w : Val) : Option Val := match asTup v, asTup w with
  | some a, some b => if a.length + b.length ≤ sizeLine then some (.dat (.tuple (a ++ b))) else none
  | _, _ => none
theorem Drs.nilD {K : Kx} {F : Hp} {ds : List D} (h : Drs K F [] ds) : ds = [] := by cases h; rfl
theorem snd_catT : Snd2 K (rCatA K.K) gCatT := by
  intro F os H st x y v w z Q k rx ry e q
  unfold gCatT at e
  split at e
  · rename_i a b ha hb
    split at e
    · rename_i hl
      cases e
      obtain ⟨e1, p, xs, rfl, h1, d1⟩ := rx.tup k ha
      obtain ⟨e2, p2, ys, rfl, h2, d2⟩ := ry.tup k hb
      subst e1 e2
      refine ⟨p, p2, xs, ys, rfl, rfl, h1, h2, by rw [d1.len, d2.len]; exact hl, fun hx => ?_, fun hx hy => ?_, fun hx hy r hr => q _ _ _ (Ext.newF k hr) (k.newF hr) (VR.newTup k hr (d1.append d2)) Frs.dat⟩
      · subst hx
        have := d1.nilD
        subst this
        exact q _ F H (Ext.refl _ _ _) k ry Frs.dat
      · subst hy
        have := d2.nilD
        subst this
        rw [List.append_nil] at q
        exact q _ F H (Ext.refl _ _ _) k rx Frs.dat
    · cases e
  · cases e
def gRepL : Val → Val → Option Val
  | v, .dat (.int n) => match asList v with
    | some a => if -(2 ^ 63) ≤ n ∧ n < 2 ^ 63 ∧ a.length * n.toNat ≤ sizeLine then some (.fr (.lst (List.replicate n.toNat a).flatten)) else none
    | none => none
  | _, _ => none
theorem snd_repL : Snd2 K rRep gRepL := by
  intro F os H st x y v w z Q k rx ry e q
  unfold gRepL at e
  split at e
  · rename_i v n
    split at e
    · rename_i a ha
      split at e
      · rename_i hn
        cases e
        obtain ⟨p, xs, rfl, h1, d1⟩ := rx.list k ha
        exact ⟨p, n, xs, rfl, ry.int, h1, hn.1, hn.2.1, by rw [d1.len]; exact hn.2.2, fun r hr => q _ F _ (Ext.newO k hr) (k.newO hr) (VR.newLst k hr (d1.rep _)) (Frs.new hr)⟩
      · cases e
    · cases e
  · cases e
def gRepT : Val → Val → Option Val
  | .dat (.tuple a), .dat (.int n) => if a ≠ [] ∧ 2 ≤ n ∧ n ≤ 1000 ∧ a.length ≤ 1000 then some (.dat (.tuple (List.replicate n.toNat a).flatten)) else none
  | _, _ => none
theorem snd_repT : Snd2 K (rRepT K.K) gRepT := by
  intro F os H st x y v w z Q k rx ry e q
  unfold gRepT at e
  split at e
  · rename_i a n
    split at e
    · rename_i hn
      cases e
      obtain ⟨_, p, xs, rfl, h1, d1⟩ := rx.tup k rfl
      refine ⟨p, n, xs, rfl, ry.int, h1, fun z => hn.1 (by subst z; exact d1.nilD), hn.2.1, hn.2.2.1, by rw [d1.len]; exact hn.2.2.2, fun r hr => q _ _ _ (Ext.newF k hr) (k.newF hr) (VR.newTup k hr (d1.rep _)) Frs.dat⟩
    · cases e
  · cases e

/-! ### comparisons -/
def gEq (v w : Val) : Option Val := match asView v, asView w with
  | some d, some e => if SeqAt.shaped d = true ∧ SeqAt.shaped e = true then some (.dat (.bool (PyData.eqv d e))) else none
  | _, _ => none
def gNe (v w : Val) : Option Val := match asView v, asView w with
  | some d, some e => if SeqAt.shaped d = true ∧ SeqAt.shaped e = true then some (.dat (.bool (!PyData.eqv d e))) else none
  | _, _ => none
theorem snd_eq : Snd2 K (rEqD K.K) gEq := by
  intro F os H st x y v w z Q k rx ry e q
  unfold gEq at e
  split at e
  · rename_i d1 d2 h1 h2
    split at e
    · rename_i hs
      cases e
      exact ⟨d1, d2, rx.view k h1 (noDict hs.1), ry.view k h2 (noDict hs.2), hs.1, hs.2, q _ F H (Ext.refl _ _ _) k (.dat (.bl _)) Frs.dat⟩
    · cases e
  · cases e
theorem snd_ne : Snd2 K (rNeD K.K) gNe := by
  intro F os H st x y v w z Q k rx ry e q
  unfold gNe at e
  split at e
  · rename_i d1 d2 h1 h2
    split at e
    · rename_i hs
      cases e
      exact ⟨d1, d2, rx.view k h1 (noDict hs.1), ry.view k h2 (noDict hs.2), hs.1, hs.2, q _ F H (Ext.refl _ _ _) k (.dat (.bl _)) Frs.dat⟩
    · cases e
  · cases e
def gSS (f : Str → Str → Bool) : Val → Val → Option Val
  | .dat (.str i), .dat (.str j) => some (.dat (.bool (f i j)))
  | _, _ => none
def strLt (i j : Str) : Bool := decide (i.cps.toList < j.cps.toList)
theorem snd_SS {f : Str → Str → Bool} : Snd2 K (fun x y H Q => ∃ i j, x = .str i ∧ y = .str j ∧ Q (.bl (f i j)) H) (gSS f) := by
  intro F os H st x y v w z Q k rx ry e q
  unfold gSS at e
  split at e
  · rename_i i j
    cases e
    exact ⟨i, j, rx.str, ry.str, q _ F H (Ext.refl _ _ _) k (.dat (.bl _)) Frs.dat⟩
  · cases e
def isNon : Val → Bool
  | .dat .none => true
  | _ => false
/-- x is None -/
def gIsN (f : Bool → Bool) : Val → Val → Option Val
  | v, .dat .none => some (.dat (.bool (f (isNon v))))
  | _, _ => none
theorem VR.isN {F H : Hp} {os : List Addr} {x : V} {v : Val} (r : VR K F os H x v) : decide (x = .non) = isNon v := by
  cases r with
  | dat r => cases r <;> simp [isNon, errD]
  | fr a b c d => simp [isNon]
  | bor a b c d => simp [isNon]
  | obj a => simp [isNon]
  | scr a b => simp [isNon]
theorem snd_isN : Snd2 K (fun x y H Q => y = .non ∧ Q (.bl (decide (x = .non))) H) (gIsN id) := by
  intro F os H st x y v w z Q k rx ry e q
  unfold gIsN at e
  split at e
  · cases e
    have hy : y = .non := by cases ry with | dat r => cases r; rfl
    exact ⟨hy, by rw [rx.isN]; exact q _ F H (Ext.refl _ _ _) k (.dat (.bl _)) Frs.dat⟩
  · cases e
theorem snd_notN : Snd2 K (fun x y H Q => y = .non ∧ Q (.bl (!decide (x = .non))) H) (gIsN (!·)) := by
  intro F os H st x y v w z Q k rx ry e q
  unfold gIsN at e
  split at e
  · cases e
    have hy : y = .non := by cases ry with | dat r => cases r; rfl
    exact ⟨hy, by rw [rx.isN]; exact q _ F H (Ext.refl _ _ _) k (.dat (.bl _)) Frs.dat⟩
  · cases e
/-- x is True, where x is a bool -/
def gIsB (f : Bool → Bool) : Val → Val → Option Val
  | .dat (.bool a), .dat (.bool b) => some (.dat (.bool (f (decide (a = b)))))
  | _, _ => none
theorem snd_isB : Snd2 K rIsB (gIsB id) := by
  intro F os H st x y v w z Q k rx ry e q
  unfold gIsB at e
  split at e
  · rename_i i j
    cases e
    exact ⟨i, j, rx.bool, ry.bool, q _ F H (Ext.refl _ _ _) k (.dat (.bl _)) Frs.dat⟩
  · cases e
theorem snd_notB : Snd2 K rNotB (gIsB (!·)) := by
  intro F os H st x y v w z Q k rx ry e q
  unfold gIsB at e
  split at e
  · rename_i i j
    cases e
    exact ⟨i, j, rx.bool, ry.bool, q _ F H (Ext.refl _ _ _) k (.dat (.bl _)) Frs.dat⟩
  · cases e

/-! ### x in xs -/
def flatD : D → Bool
  | .none | .bool _ | .int _ | .str _ => true
  | _ => false
def asSeq (v : Val) : Option (List D) := (asList v).or (asTup v)
def gIn (neg : Bool) (v w : Val) : Option Val := match asView v, asSeq w with
  | some d, some ds => if flatD d = true ∧ ds.all flatD = true then some (.dat (.bool (if neg then !ds.any (fun e => PyData.eqv e d) else ds.any (fun e => PyData.eqv e d)))) else none
  | _, _ => none
theorem flat_ok {F : Hp} {x : V} {d : D} (r : Dr K F x d) (f : flatD d = true) : flatV x = true := by
  cases r <;> first | rfl | simp [flatD, errD] at f
theorem flat_all {F : Hp} : ∀ {xs : List V} {ds : List D}, Drs K F xs ds → ds.all flatD = true → xs.all flatV = true
  | _, _, .nil, _ => rfl
  | _, _, .cons r t, f => by
    rw [List.all_cons, Bool.and_eq_true] at f
    rw [List.all_cons, flat_ok r f.1, flat_all t f.2]; rfl
theorem eqV_eqv {F : Hp} {x y : V} {d e : D} (r : Dr K F x d) (s : Dr K F y e) (f : flatD d = true) (g : flatD e = true) : eqV y x = PyData.eqv e d := by
  cases r <;> cases s <;> first | rfl | simp [flatD, errD] at f | simp [flatD] at g | skip
  all_goals simp [eqV, PyData.eqv, Bool.beq_eq_decide_eq, eq_comm]
theorem any_ok {F : Hp} {x : V} {d : D} (r : Dr K F x d) (f : flatD d = true) : ∀ {xs : List V} {ds : List D}, Drs K F xs ds → ds.all flatD = true → inV x xs = ds.any (fun e => PyData.eqv e d)
  | _, _, .nil, _ => rfl
  | _, _, .cons s t, g => by
    rw [List.all_cons, Bool.and_eq_true] at g
    show (_ || _) = (_ || _)
    dsimp only
    rw [eqV_eqv r s f g.1, ← any_ok r f t g.2]
    rfl
theorem VR.seq {F H : Hp} {os : List Addr} {st : List Cn} {x : V} {v : Val} (k : StOk K F os H st) (r : VR K F os H x v) {ds : List D} (e : asSeq v = some ds) : ∃ p xs, x = .ref p ∧ (SqL K.K H p xs ∨ SqT K.K H p xs) ∧ Drs K F xs ds := by
  unfold asSeq at e
  cases h : asList v with
  | some a =>
    rw [h] at e
    cases e
    obtain ⟨p, xs, rfl, h1, d1⟩ := r.list k h
    exact ⟨p, xs, rfl, .inl (SqL.of h1), d1⟩
  | none =>
    rw [h] at e
    obtain ⟨_, p, xs, rfl, h1, d1⟩ := r.tup k (show asTup v = some ds from by simpa using e)
    exact ⟨p, xs, rfl, .inr h1, d1⟩
theorem VR.viewF {F H : Hp} {os : List Addr} {x : V} {v : Val} {d : D} (r : VR K F os H x v) (e : asView v = some d) (f : flatD d = true) : Dr K F x d := by
  cases r with
  | dat r => cases e; exact r
  | fr a b c r =>
    cases r with
    | lst r => cases e; simp [flatD] at f
    | dk r => cases e
  | bor a b c r =>
    cases r with
    | lst r => cases e; simp [flatD] at f
    | dk r => cases e
  | obj a => cases e
  | scr a b => cases e
theorem snd_in {neg : Bool} : Snd2 K (rIn K.K neg) (gIn neg) := by
  intro F os H st x y v w z Q k rx ry e q
  unfold gIn at e
  split at e
  · rename_i d ds h1 h2
    split at e
    · rename_i hf
      cases e
      obtain ⟨p, xs, rfl, h3, d3⟩ := ry.seq k h2
      have rd := rx.viewF h1 hf.1
      refine ⟨p, xs, rfl, h3, flat_ok rd hf.1, flat_all d3 hf.2, ?_⟩
      rw [any_ok rd hf.1 d3 hf.2]
      exact q _ F H (Ext.refl _ _ _) k (.dat (.bl _)) Frs.dat
    · cases e
  · cases e

/-! ### subscripts -/
def gIx : Val → Val → Option Val
  | v, .dat (.int i) => match asSeq v with
    | some ds => (atI ds i).map .dat
    | none => none
  | _, _ => none
theorem atI_ok {F : Hp} {xs : List V} {ds : List D} {i : Int} {d : D} (r : Drs K F xs ds) (h : atI ds i = some d) : ∃ x, atI xs i = some x ∧ Dr K F x d := by
  unfold atI at h ⊢
  rw [r.len]
  cases e : ixN ds.length i with
  | none => rw [e] at h; cases h
  | some j =>
    rw [e] at h
    exact r.getD h
theorem snd_ix : Snd2 K (rIx K.K) gIx := by
  intro F os H st x y v w z Q k rx ry e q
  unfold gIx at e
  split at e
  · rename_i v i
    split at e
    · rename_i ds h1
      cases h : atI ds i with
      | none => rw [h] at e; cases e
      | some d =>
        rw [h] at e
        cases e
        obtain ⟨p, xs, rfl, h3, d3⟩ := rx.seq k h1
        obtain ⟨x, hx, rd⟩ := atI_ok d3 h
        rcases h3 with h3 | h3
        · exact .inl ⟨p, xs, i, x, rfl, ry.int, h3, hx, q _ F H (Ext.refl _ _ _) k (.dat rd) Frs.dat⟩
        · exact .inr (.inl ⟨p, xs, i, x, rfl, ry.int, h3, hx, q _ F H (Ext.refl _ _ _) k (.dat rd) Frs.dat⟩)
    · cases e
  · cases e

/-! ### calls -/
def gInt : List Val → Option Val
  | [.dat (.int i)] => some (.dat (.int i))
  | [.dat (.bool b)] => some (.dat (.int (if b then 1 else 0)))
  | _ => none
theorem snd_int : SndN K (fun xs H Q => (∃ i, xs = [.int i] ∧ Q (.int i) H) ∨ ∃ k, xs = [.bl k] ∧ Q (.int (if k then 1 else 0)) H) gInt := by
  intro F os H st xs vs z Q k r e q
  unfold gInt at e
  split at e
  · cases e
    cases r with
    | cons a b =>
      cases b
      exact .inl ⟨_, by rw [a.int], q _ F H (Ext.refl _ _ _) k (.dat (.int _)) Frs.dat⟩
  · cases e
    cases r with
    | cons a b =>
      cases b
      exact .inr ⟨_, by rw [a.bool], q _ F H (Ext.refl _ _ _) k (.dat (.int _)) Frs.dat⟩
  · cases e
def gLen : List Val → Option Val
  | [.dat (.str x)] => if x.length ≤ sizeLine then some (.dat (.int (x.length : Nat))) else none
  | [.scr ds] => some (.dat (.int (ds.length : Nat)))
  | [v] => (asSeq v).map fun ds => .dat (.int (ds.length : Nat))
  | _ => none
theorem snd_len : SndN K (fun xs H Q => ∃ x n, xs = [x] ∧ LenV K.K x H n ∧ Q (.int n) H) gLen := by
  intro F os H st xs vs z Q k r e q
  unfold gLen at e
  split at e
  · split at e
    · rename_i hl
      cases e
      cases r with
      | cons a b =>
        cases b
        have := a.str
        subst this
        exact ⟨_, _, rfl, ⟨hl, rfl⟩, q _ F H (Ext.refl _ _ _) k (.dat (.int _)) Frs.dat⟩
    · cases e
  · cases e
    cases r with
    | cons a b =>
      cases b
      cases a with
      | scr a b =>
        refine ⟨_, _, rfl, .inl ⟨_, Same.sqL k.sub a, rfl⟩, ?_⟩
        rw [b.len]
        exact q _ F H (Ext.refl _ _ _) k (.dat (.int _)) Frs.dat
  · rename_i v h1 h2
    cases h : asSeq v with
    | none => rw [h] at e; cases e
    | some ds =>
      rw [h] at e
      cases e
      cases r with
      | cons a b =>
        cases b
        obtain ⟨p, xs, rfl, h3, d3⟩ := a.seq k h
        refine ⟨_, xs.length, rfl, ?_, by rw [d3.len]; exact q _ F H (Ext.refl _ _ _) k (.dat (.int _)) Frs.dat⟩
        rcases h3 with h3 | h3
        · exact .inl ⟨xs, h3, rfl⟩
        · exact .inr ⟨xs, h3, rfl⟩
  · cases e
def gMin : List Val → Option Val
  | [.dat (.int i), .dat (.int j)] => some (.dat (.int (if j < i then j else i)))
  | _ => none
def gMax : List Val → Option Val
  | [.dat (.int i), .dat (.int j)] => some (.dat (.int (if j > i then j else i)))
  | _ => none
theorem snd_min : SndN K (fun xs H Q => ∃ i j, xs = [.int i, .int j] ∧ Q (.int (if j < i then j else i)) H) gMin := by
  intro F os H st xs vs z Q k r e q
  unfold gMin at e
  split at e
  · cases e
    cases r with
    | cons a b =>
      cases b with
      | cons c d =>
        cases d
        exact ⟨_, _, by rw [a.int, c.int], q _ F H (Ext.refl _ _ _) k (.dat (.int _)) Frs.dat⟩
  · cases e
theorem snd_max : SndN K (fun xs H Q => ∃ i j, xs = [.int i, .int j] ∧ Q (.int (if j > i then j else i)) H) gMax := by
  intro F os H st xs vs z Q k r e q
  unfold gMax at e
  split at e
  · cases e
    cases r with
    | cons a b =>
      cases b with
      | cons c d =>
        cases d
        exact ⟨_, _, by rw [a.int, c.int], q _ F H (Ext.refl _ _ _) k (.dat (.int _)) Frs.dat⟩
  · cases e
def gList : List Val → Option Val
  | [.scr ds] => some (.fr (.lst ds))
  | [v] => (asSeq v).map fun ds => .fr (.lst ds)
  | _ => none
theorem snd_list : SndN K (fun xs H Q => ∃ p ys, xs = [.ref p] ∧ (SqL K.K H p ys ∨ SqT K.K H p ys) ∧ ∀ l, H l = none → Q (.ref l) (upd H l (.lst ys))) gList := by
  intro F os H st xs vs z Q k r e q
  unfold gList at e
  split at e
  · cases e
    cases r with
    | cons a b =>
      cases b
      cases a with
      | scr a b => exact ⟨_, _, rfl, .inl (Same.sqL k.sub a), fun r hr => q _ F _ (Ext.newO k hr) (k.newO hr) (VR.newLst k hr b) (Frs.new hr)⟩
  · rename_i v h1
    cases h : asSeq v with
    | none => rw [h] at e; cases e
    | some ds =>
      rw [h] at e
      cases e
      cases r with
      | cons a b =>
        cases b
        obtain ⟨p, xs, rfl, h3, d3⟩ := a.seq k h
        exact ⟨_, _, rfl, h3, fun r hr => q _ F _ (Ext.newO k hr) (k.newO hr) (VR.newLst k hr d3) (Frs.new hr)⟩
  · cases e
def gTuple : List Val → Option Val
  | [v] => (asSeq v).map fun ds => .dat (.tuple ds)
  | _ => none
theorem snd_tuple : SndN K (fun xs H Q => ∃ p ys, xs = [.ref p] ∧ ((SqL K.K H p ys ∧ ∀ l, H l = none → Q (.ref l) (upd H l (.tup ys))) ∨ (SqT K.K H p ys ∧ Q (.ref p) H))) gTuple := by
  intro F os H st xs vs z Q k r e q
  unfold gTuple at e
  split at e
  · rename_i v
    cases h : asSeq v with
    | none => rw [h] at e; cases e
    | some ds =>
      rw [h] at e
      cases e
      cases r with
      | cons a b =>
        cases b
        unfold asSeq at h
        cases h2 : asList v with
        | some a2 =>
          rw [h2] at h
          cases h
          obtain ⟨p, xs, rfl, h3, d3⟩ := a.list k h2
          exact ⟨p, xs, rfl, .inl ⟨SqL.of h3, fun r hr => q _ _ _ (Ext.newF k hr) (k.newF hr) (VR.newTup k hr d3) Frs.dat⟩⟩
        | none =>
          rw [h2] at h
          obtain ⟨e1, p, xs, rfl, h3, d3⟩ := a.tup k (show asTup v = some ds from by simpa using h)
          subst e1
          exact ⟨p, xs, rfl, .inr ⟨h3, q _ F H (Ext.refl _ _ _) k a Frs.dat⟩⟩
  · cases e
/-- the ints of data -/
def ints? : List D → Option (List Int)
  | [] => some []
  | .int i :: r => (ints? r).map (i :: ·)
  | _ :: _ => none
theorem ints_ok {F : Hp} : ∀ {ds : List D} {xs : List V} {ns : List Int}, Drs K F xs ds → ints? ds = some ns → xs = ns.map V.int
  | [], _, _, .nil, h => by cases h; rfl
  | .int i :: r, _, ns, .cons a b, h => by
    cases a
    simp only [ints?] at h
    cases e : ints? r with
    | none => rw [e] at h; cases h
    | some es => rw [e] at h; cases h; rw [ints_ok b e]; rfl
def bools? : List D → Option (List Bool)
  | [] => some []
  | .bool i :: r => (bools? r).map (i :: ·)
  | _ :: _ => none
theorem bools_ok {F : Hp} : ∀ {ds : List D} {xs : List V} {ns : List Bool}, Drs K F xs ds → bools? ds = some ns → xs = ns.map V.bl
  | [], _, _, .nil, h => by cases h; rfl
  | .bool i :: r, _, ns, .cons a b, h => by
    cases a
    simp only [bools?] at h
    cases e : bools? r with
    | none => rw [e] at h; cases h
    | some es => rw [e] at h; cases h; rw [bools_ok b e]; rfl
def gSum : List Val → Option Val
  | [v] => match asSeq v with
    | some ds => (ints? ds).map fun ns => .dat (.int ns.sum)
    | none => none
  | _ => none
def gAll : List Val → Option Val
  | [v] => match asList v with
    | some ds => (bools? ds).map fun bs => .dat (.bool (bs.all id))
    | none => none
  | _ => none
def gAny : List Val → Option Val
  | [v] => match asList v with
    | some ds => (bools? ds).map fun bs => .dat (.bool (bs.any id))
    | none => none
  | _ => none
def rSumA (K : PySem.W.Frag) : List V → Hp → VK → Prop := fun vs H Q => ∃ (a : Addr) (ns : List Int), vs = [V.ref a] ∧ (SqL K H a (ns.map V.int) ∨ SqT K H a (ns.map V.int)) ∧ Q (.int ns.sum) H
theorem cr_sumA {X : Cx} (hc : X.calm = true) : CallR X (.builtin "sum") (rSumA X.K) := by
  intro pins s σ H vs us Q I r h
  obtain ⟨a, ns, rfl, h1 | h1, q⟩ := h
  · exact cr_sum hc pins s σ H _ us Q I r ⟨a, ns, rfl, h1, q⟩
  · cases Vals.ref1 r
    obtain ⟨its, rv, p1, _⟩ := I.tuple h1
    have hi := rv.ints
    obtain ⟨o, ho, hcl, n, hdt⟩ := id p1
    obtain ⟨xs, e⟩ := hi.allInts.items
    have hn : numsOf (intItems xs).toList = ns := by rw [← e]; exact hi.numsOf
    rw [nums_intItems] at hn
    have hl : s.heap.IsTuple a its.toArray := ⟨o, ho, hcl, n, hdt⟩
    rw [e] at hl
    refine PySem.W.ktm_sumG (I.ok.hd hc) hl fun h' tk t' hk => ⟨.int _, H, I.kept (t' := tk) hk, ⟨_, rfl⟩, ?_⟩
    rw [preSum_eq, List.take_of_length_le (by simp), hn]
    exact q
theorem snd_sum : SndN K (rSumA K.K) gSum := by
  intro F os H st xs vs z Q k r e q
  unfold gSum at e
  split at e
  · rename_i v
    split at e
    · rename_i ds h
      cases h2 : ints? ds with
      | none => rw [h2] at e; cases e
      | some ns =>
        rw [h2] at e
        cases e
        cases r with
        | cons a b =>
          cases b
          obtain ⟨p, xs, rfl, h3, d3⟩ := a.seq k h
          have := ints_ok d3 h2
          subst this
          exact ⟨p, ns, rfl, h3, q _ F H (Ext.refl _ _ _) k (.dat (.int _)) Frs.dat⟩
    · cases e
  · cases e
theorem snd_all : SndN K (rAll K.K) gAll := by
  intro F os H st xs vs z Q k r e q
  unfold gAll at e
  split at e
  · rename_i v
    split at e
    · rename_i ds h
      cases h2 : bools? ds with
      | none => rw [h2] at e; cases e
      | some ns =>
        rw [h2] at e
        cases e
        cases r with
        | cons a b =>
          cases b
          obtain ⟨p, xs, rfl, h3, d3⟩ := a.list k h
          have := bools_ok d3 h2
          subst this
          exact ⟨p, ns, rfl, SqL.of h3, q _ F H (Ext.refl _ _ _) k (.dat (.bl _)) Frs.dat⟩
    · cases e
  · cases e
theorem snd_any : SndN K (rAny K.K) gAny := by
  intro F os H st xs vs z Q k r e q
  unfold gAny at e
  split at e
  · rename_i v
    split at e
    · rename_i ds h
      cases h2 : bools? ds with
      | none => rw [h2] at e; cases e
      | some ns =>
        rw [h2] at e
        cases e
        cases r with
        | cons a b =>
          cases b
          obtain ⟨p, xs, rfl, h3, d3⟩ := a.list k h
          have := bools_ok d3 h2
          subst this
          exact ⟨p, ns, rfl, SqL.of h3, q _ F H (Ext.refl _ _ _) k (.dat (.bl _)) Frs.dat⟩
    · cases e
  · cases e
def gGcd : List Val → Option Val
  | [.dat (.int i), .dat (.int j)] => some (.dat (.int ((Nat.gcd i.natAbs j.natAbs : Nat) : Int)))
  | _ => none
theorem snd_gcd : SndN K rGcd gGcd := by
  intro F os H st xs vs z Q k r e q
  unfold gGcd at e
  split at e
  · cases e
    cases r with
    | cons a b =>
      cases b with
      | cons c d =>
        cases d
        exact ⟨_, _, by rw [a.int, c.int], q _ F H (Ext.refl _ _ _) k (.dat (.int _)) Frs.dat⟩
  · cases e
end
end Pl

set_option Elab.async false
set_option linter.all false
set_option maxRecDepth 100000
set_option maxHeartbeats 4000000
namespace Pl
open PySem PySem.Spec PyProof.Rows L2

/-! ### tests: what comes is a bool -/
def PoT (X : Kx) (W : WX) (σ : L2.St) (F : Hp) (os : List Addr) (H : Hp) (o : Ou) (Q : Bool → Hp → Prop) : Prop := match o with
  | .stk => False
  | .ok v st => ∃ b, v = .dat (.bool b) ∧ ∀ F' os' H', Ext F os H F' os' H' → StOk X F' os' H' st → Q b H'
  | .exc c d st => ∀ cls dd F' os' H', Ext F os H F' os' H' → StOk X F' os' H' st → ErD X F' cls dd c d → W cls dd σ H'
def tT (X : Kx) (W : WX) (m : EM) : TT := fun σ H Q => ∃ B F os env st, Rel X B F os σ H env st ∧ PoT X W σ F os H (m env st) Q
theorem PoT.shift {K : Kx} {W : WX} {σ : L2.St} {F F' H H' : Hp} {os os' : List Addr} (e : Ext F os H F' os' H') {o : Ou} {Q : Bool → Hp → Prop} (h : PoT K W σ F os H o Q) : PoT K W σ F' os' H' o Q := by
  cases o with
  | stk => exact h
  | ok v st => obtain ⟨b, e1, q⟩ := h; exact ⟨b, e1, fun F2 os2 H2 e2 k => q F2 os2 H2 (e.trans e2) k⟩
  | exc c d st => exact fun cls dd F2 os2 H2 e2 k r => h cls dd F2 os2 H2 (e.trans e2) k r
theorem PoT.bind {K : Kx} {W : WX} {σ : L2.St} {F H : Hp} {os : List Addr} {o : Ou} {k : Val → List Cn → Ou} {Q : Bool → Hp → Prop} {Q1 : VK} (h : PoT K W σ F os H (o.bind k) Q)
    (hk : ∀ v st1 x F1 os1 H1, o = .ok v st1 → Ext F os H F1 os1 H1 → StOk K F1 os1 H1 st1 → VR K F1 os1 H1 x v → Frs H x v → PoT K W σ F os H (k v st1) Q → Q1 x H1) : Po K W σ F os H o Q1 := by
  cases o with
  | stk => exact h
  | ok v st => exact fun x F1 os1 H1 e q r f => hk v st x F1 os1 H1 rfl e q r f h
  | exc c d st => exact h
theorem PoT.toPo {K : Kx} {W : WX} {σ : L2.St} {F H : Hp} {os : List Addr} {o : Ou} {Q : Bool → Hp → Prop} (h : PoT K W σ F os H o Q) : Po K W σ F os H o (fun x H' => ∃ k, x = .bl k ∧ Q k H') := by
  cases o with
  | stk => exact h
  | ok v st =>
    obtain ⟨b, e1, q⟩ := h
    subst e1
    exact fun x F1 os1 H1 e k r f => ⟨b, r.bool, q F1 os1 H1 e k⟩
  | exc c d st => exact h
theorem tT_tM {K : Kx} {W : WX} {m : EM} {σ : L2.St} {H : Hp} {Q : Bool → Hp → Prop} (h : tT K W m σ H Q) : tM K W m σ H (fun x H' => ∃ k, x = .bl k ∧ Q k H') := by
  obtain ⟨B, F, os, env, st, R, h⟩ := h
  exact ⟨B, F, os, env, st, R, h.toPo⟩
def truth : Val → Option Bool
  | .dat .none => some false
  | .dat (.bool b) => some b
  | .dat (.int i) => some (i != 0)
  | .dat (.str x) => if x.length ≤ sizeLine then some ((x.length : Int) != 0) else none
  | v => (asSeq v).map fun ds => !ds.isEmpty
def truM (m : EM) : EM := fun env st => (m env st).bind fun v st1 => Ou.of st1 ((truth v).map fun b => .dat (.bool b))
theorem isEmpty_len {α β : Type} {xs : List α} {ys : List β} (h : xs.length = ys.length) : xs.isEmpty = ys.isEmpty := by
  cases xs <;> cases ys <;> simp_all
theorem VR.truth {K : Kx} {F H : Hp} {os : List Addr} {st : List Cn} {x : V} {v : Val} (k : StOk K F os H st) (r : VR K F os H x v) {b : Bool} (e : truth v = some b) : TruV K.K x H b := by
  unfold Pl.truth at e
  split at e
  · cases r with | dat r => cases r; cases e; rfl
  · have := r.bool
    subst this
    cases e; rfl
  · have := r.int
    subst this
    cases e; rfl
  · split at e
    · rename_i hl
      have := r.str
      subst this
      cases e
      exact ⟨hl, rfl⟩
    · cases e
  · cases h : asSeq v with
    | none => rw [h] at e; cases e
    | some ds =>
      rw [h] at e
      cases e
      obtain ⟨p, xs, rfl, h3 | h3, d3⟩ := r.seq k h
      · exact .inl ⟨xs, h3, by rw [isEmpty_len d3.len]⟩
      · exact .inr (.inl ⟨xs, h3, by rw [isEmpty_len d3.len]⟩)

section
variable {X : Cx} {ec : List (Addr × Str)} {W : WX} {e a b c : Expr} {ma mb mc m : EM} {pos : Pos}
theorem pt_tru (h : PE X e (tM (kx X ec) W m)) (he : ∀ whole, isTrue e X.env whole = (do let v ← whole; standAt e.pos; holding [v] (truthy v)) := by intro _; rfl) : PT X e (tT (kx X ec) W (truM m)) :=
  (pt_truth h he).imp fun σ H Q h => by
    obtain ⟨B, F, os, env, st, R, h⟩ := h
    refine ⟨B, F, os, env, st, R, h.bind ?_⟩
    intro v st1 x F1 os1 H1 ev e1 k1 r1 f1 p1
    cases ht : truth v with
    | none => rw [ht] at p1; exact False.elim p1
    | some bb =>
      rw [ht] at p1
      obtain ⟨b2, eb, q⟩ := p1
      cases eb
      exact ⟨bb, r1.truth k1 ht, q F1 os1 H1 e1 k1⟩
theorem pt_cmpb {op : CmpOp} {r : R2} {g : Val → Val → Option Val} (ho : OpR X (compareOp op) r) (hs : Snd2 (kx X ec) r g) (ha : PE X a (tM (kx X ec) W ma)) (hb : PE X b (tM (kx X ec) W mb)) (hm : behindInMarks op b = false) : PT X (.Compare a [op] [b] pos) (tT (kx X ec) W (binM g ma mb)) :=
  (pt_cmpR ho ha hb hm).imp fun _ _ _ h => bin_ok hs (tT_tM h)
/-- any expression that gives a bool -/
theorem pt_bool (h : PE X e (tM (kx X ec) W m)) (he : ∀ whole, isTrue e X.env whole = (do let v ← whole; standAt e.pos; holding [v] (truthy v)) := by intro _; rfl) : PT X e (tT (kx X ec) W m) :=
  (pt_val h he).imp fun σ H Q h => tT_tM h
/-! ### not, and, or, the conditional expression -/
def notM (m : EM) : EM := fun env st => (m env st).bind fun v st1 => Ou.of st1 (match v with | .dat (.bool b) => some (.dat (.bool (!b))) | _ => none)
theorem pt_n (h : PT X e (tT (kx X ec) W m)) : PT X (.UnaryOp .Not e pos) (tT (kx X ec) W (notM m)) := (pt_not h).imp fun σ H Q h => by
  obtain ⟨B, F, os, env, st, R, h⟩ := h
  refine ⟨B, F, os, env, st, R, ?_⟩
  unfold notM at h
  cases hm : m env st with
  | stk => rw [hm] at h; exact h
  | exc c d st1 => rw [hm] at h; exact h
  | ok v st1 =>
    rw [hm] at h
    dsimp only [Ou.bind] at h
    split at h
    · rename_i b0
      obtain ⟨b, e1, q⟩ := h
      cases e1
      exact ⟨b0, rfl, q⟩
    · exact False.elim h
theorem pe_n (h : PE X e (tM (kx X ec) W m)) : PE X (.UnaryOp .Not e pos) (tM (kx X ec) W (notM (truM m))) := (pe_notT h).imp fun σ H Q h => by
  obtain ⟨B, F, os, env, st, R, h⟩ := h
  refine ⟨B, F, os, env, st, R, ?_⟩
  unfold notM truM at h
  cases hm : m env st with
  | stk => rw [hm] at h; exact h
  | exc c d st1 => rw [hm] at h; exact h
  | ok v st1 =>
    rw [hm] at h
    dsimp only [Ou.bind] at h
    intro x F1 os1 H1 e1 k1 r1 f1
    cases ht : truth v with
    | none => rw [ht] at h; exact False.elim h
    | some bb =>
      rw [ht] at h
      exact ⟨bb, r1.truth k1 ht, h _ _ _ _ e1 k1 (.dat (.bl _)) Frs.dat⟩
/-- a and b, as a test -/
def andM (ma mb : EM) : EM := fun env st => (ma env st).bind fun v st1 => match v with
  | .dat (.bool true) => mb env st1
  | .dat (.bool false) => .ok (.dat (.bool false)) st1
  | _ => .stk
def orM (ma mb : EM) : EM := fun env st => (ma env st).bind fun v st1 => match v with
  | .dat (.bool true) => .ok (.dat (.bool true)) st1
  | .dat (.bool false) => mb env st1
  | _ => .stk
theorem and_ok {K : Kx} {σ : L2.St} {H : Hp} {Q : Bool → Hp → Prop} (h : tT K W (andM ma mb) σ H Q) : tAnd (tT K W ma) (tT K W mb) σ H Q := by
  obtain ⟨B, F, os, env, st, R, h⟩ := h
  refine ⟨B, F, os, env, st, R, ?_⟩
  unfold andM at h
  cases hm : ma env st with
  | stk => rw [hm] at h; exact h
  | exc c d st1 => rw [hm] at h; exact h
  | ok v st1 =>
    rw [hm] at h
    dsimp only [Ou.bind] at h
    split at h
    · refine ⟨true, rfl, fun F1 os1 H1 e1 k1 => ?_⟩
      refine iteT ?_
      exact ⟨B, F1, os1, env, _, R.ext e1 k1, h.shift e1⟩
    · obtain ⟨b, e1, q⟩ := h
      cases e1
      refine ⟨false, rfl, fun F1 os1 H1 e1 k1 => ?_⟩
      refine iteF ?_
      exact q F1 os1 H1 e1 k1
    · exact False.elim h
theorem or_ok {K : Kx} {σ : L2.St} {H : Hp} {Q : Bool → Hp → Prop} (h : tT K W (orM ma mb) σ H Q) : tOr (tT K W ma) (tT K W mb) σ H Q := by
  obtain ⟨B, F, os, env, st, R, h⟩ := h
  refine ⟨B, F, os, env, st, R, ?_⟩
  unfold orM at h
  cases hm : ma env st with
  | stk => rw [hm] at h; exact h
  | exc c d st1 => rw [hm] at h; exact h
  | ok v st1 =>
    rw [hm] at h
    dsimp only [Ou.bind] at h
    split at h
    · obtain ⟨b, e1, q⟩ := h
      cases e1
      refine ⟨true, rfl, fun F1 os1 H1 e1 k1 => ?_⟩
      refine iteT ?_
      exact q F1 os1 H1 e1 k1
    · refine ⟨false, rfl, fun F1 os1 H1 e1 k1 => ?_⟩
      refine iteF ?_
      exact ⟨B, F1, os1, env, _, R.ext e1 k1, h.shift e1⟩
    · exact False.elim h
theorem pw_a1 (ha : PT X a (tT (kx X ec) W ma)) : PW X (.BoolOp .And [a] pos) (tT (kx X ec) W ma) := pw_and1 ha
theorem pw_o1 (ha : PT X a (tT (kx X ec) W ma)) : PW X (.BoolOp .Or [a] pos) (tT (kx X ec) W ma) := pw_or1 ha
theorem pw_a {rest : List Expr} (ha : PT X a (tT (kx X ec) W ma)) (hb : PW X (.BoolOp .And (b :: rest) pos) (tT (kx X ec) W mb)) : PW X (.BoolOp .And (a :: b :: rest) pos) (tT (kx X ec) W (andM ma mb)) := (pw_and ha hb).imp fun _ _ _ => and_ok
theorem pw_o {rest : List Expr} (ha : PT X a (tT (kx X ec) W ma)) (hb : PW X (.BoolOp .Or (b :: rest) pos) (tT (kx X ec) W mb)) : PW X (.BoolOp .Or (a :: b :: rest) pos) (tT (kx X ec) W (orM ma mb)) := (pw_or ha hb).imp fun _ _ _ => or_ok
/-- a and b as a value, a by its truth -/
def andV (ma mb : EM) : EM := fun env st => (ma env st).bind fun v st1 => match truth v with
  | some true => mb env st1
  | some false => .ok v st1
  | none => .stk
def orV (ma mb : EM) : EM := fun env st => (ma env st).bind fun v st1 => match truth v with
  | some true => .ok v st1
  | some false => mb env st1
  | none => .stk
theorem pe_1 {op} (h : PE X a (tM (kx X ec) W m)) : PE X (.BoolOp op [a] pos) (tM (kx X ec) W m) := pe_one h
theorem pe_a {rest : List Expr} (ha : PE X a (tM (kx X ec) W ma)) (hb : PE X (.BoolOp .And (b :: rest) pos) (tM (kx X ec) W mb)) : PE X (.BoolOp .And (a :: b :: rest) pos) (tM (kx X ec) W (andV ma mb)) := (pe_andT ha hb).imp fun σ H Q h => by
  obtain ⟨B, F, os, env, st, R, h⟩ := h
  refine ⟨B, F, os, env, st, R, ?_⟩
  unfold andV at h
  cases hm : ma env st with
  | stk => rw [hm] at h; exact h
  | exc c d st1 => rw [hm] at h; exact h
  | ok v st1 =>
    rw [hm] at h
    dsimp only [Ou.bind] at h
    intro x F1 os1 H1 e1 k1 r1 f1
    cases ht : truth v with
    | none => rw [ht] at h; exact False.elim h
    | some bb =>
      rw [ht] at h
      refine ⟨bb, r1.truth k1 ht, ?_⟩
      cases bb with
      | true =>
        refine iteT ?_
        exact ⟨B, F1, os1, env, _, R.ext e1 k1, Po.shift e1 h⟩
      | false =>
        refine iteF ?_
        exact h _ _ _ _ e1 k1 r1 f1
theorem pe_o {rest : List Expr} (ha : PE X a (tM (kx X ec) W ma)) (hb : PE X (.BoolOp .Or (b :: rest) pos) (tM (kx X ec) W mb)) : PE X (.BoolOp .Or (a :: b :: rest) pos) (tM (kx X ec) W (orV ma mb)) := (pe_orT ha hb).imp fun σ H Q h => by
  obtain ⟨B, F, os, env, st, R, h⟩ := h
  refine ⟨B, F, os, env, st, R, ?_⟩
  unfold orV at h
  cases hm : ma env st with
  | stk => rw [hm] at h; exact h
  | exc c d st1 => rw [hm] at h; exact h
  | ok v st1 =>
    rw [hm] at h
    dsimp only [Ou.bind] at h
    intro x F1 os1 H1 e1 k1 r1 f1
    cases ht : truth v with
    | none => rw [ht] at h; exact False.elim h
    | some bb =>
      rw [ht] at h
      refine ⟨bb, r1.truth k1 ht, ?_⟩
      cases bb with
      | true =>
        refine iteT ?_
        exact h _ _ _ _ e1 k1 r1 f1
      | false =>
        refine iteF ?_
        exact ⟨B, F1, os1, env, _, R.ext e1 k1, Po.shift e1 h⟩
def ifM (mc ma mb : EM) : EM := fun env st => (mc env st).bind fun v st1 => match v with
  | .dat (.bool true) => ma env st1
  | .dat (.bool false) => mb env st1
  | _ => .stk
theorem pe_if (hc : PT X c (tT (kx X ec) W mc)) (ha : PE X a (tM (kx X ec) W ma)) (hb : PE X b (tM (kx X ec) W mb)) : PE X (.IfExp c a b pos) (tM (kx X ec) W (ifM mc ma mb)) := (pe_ifExp hc ha hb).imp fun σ H Q h => by
  obtain ⟨B, F, os, env, st, R, h⟩ := h
  refine ⟨B, F, os, env, st, R, ?_⟩
  unfold ifM at h
  cases hm : mc env st with
  | stk => rw [hm] at h; exact h
  | exc c d st1 => rw [hm] at h; exact h
  | ok v st1 =>
    rw [hm] at h
    dsimp only [Ou.bind] at h
    split at h
    · refine ⟨true, rfl, fun F1 os1 H1 e1 k1 => ?_⟩
      refine iteT ?_
      exact ⟨B, F1, os1, env, _, R.ext e1 k1, Po.shift e1 h⟩
    · refine ⟨false, rfl, fun F1 os1 H1 e1 k1 => ?_⟩
      refine iteF ?_
      exact ⟨B, F1, os1, env, _, R.ext e1 k1, Po.shift e1 h⟩
    · exact False.elim h
theorem pt_if (hc : PT X c (tT (kx X ec) W mc)) (ha : PE X a (tM (kx X ec) W ma)) (hb : PE X b (tM (kx X ec) W mb)) (he : ∀ whole, isTrue (.IfExp c a b pos) X.env whole = (do let v ← whole; standAt (Expr.IfExp c a b pos).pos; holding [v] (truthy v)) := by intro _; rfl) : PT X (.IfExp c a b pos) (tT (kx X ec) W (truM (ifM mc ma mb))) :=
  pt_tru (pe_if hc ha hb) he
/-! ### a op b op c -/
def chM (g g' : Val → Val → Option Val) (ma mb mc : EM) : EM := fun env st => (ma env st).bind fun v st1 => (mb env st1).bind fun w st2 => match g v w with
  | some (.dat (.bool true)) => (mc env st2).bind fun u st3 => Ou.of st3 (g' w u)
  | some (.dat (.bool false)) => .ok (.dat (.bool false)) st2
  | _ => .stk
theorem ch_ok {K : Kx} {r r' : R2} {g g' : Val → Val → Option Val} (hs : Snd2 K r g) (hs' : Snd2 K r' g') {σ : L2.St} {H : Hp} {Q : VK} (h : tM K W (chM g g' ma mb mc) σ H Q) : tChain r r' (tM K W ma) (tM K W mb) (tM K W mc) σ H Q := by
  obtain ⟨B, F, os, env, st, R, h⟩ := h
  refine ⟨B, F, os, env, st, R, h.bind ?_⟩
  intro v st1 x F1 os1 H1 ev e1 k1 r1 f1 p1
  refine ⟨B, F1, os1, env, st1, R.ext e1 k1, (p1.shift e1).bind ?_⟩
  intro w st2 y F2 os2 H2 ew e2 k2 r2 f2 p2
  have R2 := (R.ext e1 k1).ext e2 k2
  cases hg : g v w with
  | none => rw [hg] at p2; exact False.elim p2
  | some z =>
    rw [hg] at p2
    refine hs F2 os2 H2 st2 x y v w z _ k2 (r1.ext e2) r2 hg fun x' F' H' e3 k3 r3 f3 => ?_
    split at p2
    · rename_i hz
      cases hz
      refine ⟨true, r3.bool, ?_⟩
      refine iteT ?_
      refine ⟨B, F', os2, env, st2, R2.ext e3 k3, (p2.shift (e2.trans e3)).bind ?_⟩
      intro u st4 w4 F4 os4 H4 ew4 e4 k4 r4 f4 p4
      obtain ⟨z4, hz4, q4⟩ := p4.of
      exact hs' F4 os4 H4 st4 y w4 w u z4 Q k4 ((r2.ext e3).ext e4) r4 hz4 fun x' F' H' e k r f => q4 x' F' os4 H' (e4.trans e) k r fun c p ev ex => e4.nn (f c p ev ex)
    · rename_i hz
      cases hz
      refine ⟨false, r3.bool, ?_⟩
      refine iteF ?_
      exact p2 _ _ _ _ (e2.trans e3) k3 (.dat (.bl _)) Frs.dat
    · exact False.elim p2
theorem pe_ch {op op' : CmpOp} {r r' : R2} {g g' : Val → Val → Option Val} (ho : OpR X (compareOp op) r) (hs : Snd2 (kx X ec) r g) (ho' : OpR X (compareOp op') r') (hs' : Snd2 (kx X ec) r' g') (ha : PE X a (tM (kx X ec) W ma)) (hb : PE X b (tM (kx X ec) W mb)) (hc : PE X c (tM (kx X ec) W mc))
    (hm : lastMarks [op, op'] [b, c] = false := by with_unfolding_all rfl) : PE X (.Compare a [op, op'] [b, c] pos) (tM (kx X ec) W (chM g g' ma mb mc)) := (pe_chain ho ho' ha hb hc hm).imp fun _ _ _ => ch_ok hs hs'
theorem pt_ch {op op' : CmpOp} {r r' : R2} {g g' : Val → Val → Option Val} (ho : OpR X (compareOp op) r) (hs : Snd2 (kx X ec) r g) (ho' : OpR X (compareOp op') r') (hs' : Snd2 (kx X ec) r' g') (ha : PE X a (tM (kx X ec) W ma)) (hb : PE X b (tM (kx X ec) W mb)) (hc : PE X c (tM (kx X ec) W mc))
    (hm : lastMarks [op, op'] [b, c] = false := by with_unfolding_all rfl) : PT X (.Compare a [op, op'] [b, c] pos) (tT (kx X ec) W (chM g g' ma mb mc)) := (pt_chain ho ho' ha hb hc hm).imp fun _ _ _ h => ch_ok hs hs' (tT_tM h)

/-! ### slices -/
def cutD (ds : List D) (lo hi : Option Int) : List D := (ds.drop (HT.sIx ds.length 0 lo)).take (HT.sIx ds.length ds.length hi - HT.sIx ds.length 0 lo)
def gCut (v : Val) (lo hi : Option Int) : Option Val := match v with
  | .dat (.str x) => if x.length ≤ sizeLine then some (.dat (.str (cutS x lo hi))) else none
  | v => match asList v with
    | some ds => some (.fr (.lst (cutD ds lo hi)))
    | none => (asTup v).map fun ds => .dat (.tuple (cutD ds lo hi))
/-- a part of a slice -/
def poM (m : EM) : Env → List Cn → Option (Option Int × List Cn) → Prop := fun _ _ _ => True
inductive PaM where
  | no
  | som (m : EM)
def tPO (K : Kx) (W : WX) : PaM → TO
  | .no => tNoPart
  | .som m => tPart (tM K W m)
theorem po_n : PO X none (tPO (kx X ec) W .no) := po_none
theorem po_s (h : PE X e (tM (kx X ec) W m)) : PO X (some e) (tPO (kx X ec) W (.som m)) := po_some h
def paBind (p : PaM) (env : Env) (st : List Cn) (k : Option Int → List Cn → Ou) : Ou := match p with
  | .no => k none st
  | .som m => (m env st).bind fun v st1 => match v with
    | .dat (.int i) => k (some i) st1
    | _ => .stk
def sliM (m : EM) (lo hi : PaM) : EM := fun env st => (m env st).bind fun v st1 => paBind lo env st1 fun l st2 => paBind hi env st2 fun h st3 => Ou.of st3 (gCut v l h)
def rCutA (K : PySem.W.Frag) : V → Option Int → Option Int → Hp → VK → Prop := fun x lo hi H Q => rSlS x lo hi H Q ∨ (rSlL K x lo hi H Q ∨ rSlA K x lo hi H Q)
theorem sl_any : SlR X (rCutA X.K) := (sl_str).or (sl_list.or sl_tupA)
theorem cut_ok {K : Kx} {F H : Hp} {os : List Addr} {st : List Cn} {x : V} {v z : Val} {lo hi : Option Int} {Q : VK} (k : StOk K F os H st) (r : VR K F os H x v) (e : gCut v lo hi = some z)
    (q : ∀ x' F' H', Ext F os H F' os H' → StOk K F' os H' st → VR K F' os H' x' z → Frs H x' z → Q x' H') : rCutA K.K x lo hi H Q := by
  unfold gCut at e
  split at e
  · split at e
    · rename_i hl
      cases e
      have := r.str
      subst this
      exact .inl ⟨_, rfl, hl, q _ F H (Ext.refl _ _ _) k (.dat (.str _)) Frs.dat⟩
    · cases e
  · split at e
    · rename_i ds h
      cases e
      obtain ⟨p, xs, rfl, h1, d1⟩ := r.list k h
      refine .inr (.inl ⟨p, xs, rfl, SqL.of h1, fun r hr => q _ F _ (Ext.newO k hr) (k.newO hr) (VR.newLst k hr ?_) (Frs.new hr)⟩)
      unfold cutV cutD
      rw [d1.len]
      exact (d1.drop _).take _
    · cases h : asTup v with
      | none => rw [h] at e; cases e
      | some ds =>
        rw [h] at e
        cases e
        obtain ⟨e1, p, xs, rfl, h1, d1⟩ := r.tup k h
        subst e1
        refine .inr (.inr ⟨p, xs, rfl, h1, fun hw => ?_, fun hw r hr => q _ _ _ (Ext.newF k hr) (k.newF hr) (VR.newTup k hr ?_) Frs.dat⟩)
        · have ec : cutD ds lo hi = ds := by
            unfold cutD
            rw [d1.len] at hw
            rw [hw.1, hw.2]
            simp
          dsimp only at q
          rw [ec] at q
          exact q _ F H (Ext.refl _ _ _) k r Frs.dat
        · unfold cutV cutD
          rw [d1.len]
          exact (d1.drop _).take _
theorem pa_bind {K : Kx} {B : Bs} {p : PaM} {k : Option Int → List Cn → Ou} {σ : L2.St} {F H : Hp} {os : List Addr} {env : Env} {st : List Cn} {Q : VK} {Q1 : Option Int → Hp → Prop} (R : Rel K B F os σ H env st) (h : Po K W σ F os H (paBind p env st k) Q)
    (hk : ∀ l st1 F1 os1 H1, Ext F os H F1 os1 H1 → StOk K F1 os1 H1 st1 → Po K W σ F os H (k l st1) Q → Q1 l H1) : tPO K W p σ H Q1 := by
  cases p with
  | no => exact hk none st F os H (Ext.refl _ _ _) R.ok h
  | som m =>
    refine ⟨B, F, os, env, st, R, Po.bind h ?_⟩
    intro v st1 x F1 os1 H1 ev e1 k1 r1 f1 p1
    split at p1
    · rename_i i
      exact ⟨i, r1.int, hk _ _ _ _ _ e1 k1 p1⟩
    · exact False.elim p1
theorem pe_sl {lo hi : Option Expr} {ml mh : PaM} {p2 : Pos} (he : PE X e (tM (kx X ec) W m)) (hl : PO X lo (tPO (kx X ec) W ml)) (hh : PO X hi (tPO (kx X ec) W mh)) : PE X (.Subscript e (.Slice lo hi none p2) pos) (tM (kx X ec) W (sliM m ml mh)) :=
  (pe_slice sl_any he hl hh).imp fun σ H Q h => by
    obtain ⟨B, F, os, env, st, R, h⟩ := h
    refine ⟨B, F, os, env, st, R, h.bind ?_⟩
    intro v st1 x F1 os1 H1 ev e1 k1 r1 f1 p1
    refine pa_bind (R.ext e1 k1) (p1.shift e1) fun l st2 F2 os2 H2 e2 k2 p2 => ?_
    refine pa_bind ((R.ext e1 k1).ext e2 k2) (p2.shift e2) fun h st3 F3 os3 H3 e3 k3 p3 => ?_
    obtain ⟨z, hz, q⟩ := p3.of
    exact cut_ok k3 ((r1.ext e2).ext e3) hz fun x' F' H' e k r f => q x' F' os3 H' (e3.trans e) k r fun c p ev ex => e3.nn (f c p ev ex)

/-! ### d[k] of an object of the store, of a dict of one's own -/
def keyD : D → Option Key
  | .int i => some (.inl i)
  | .str x => some (.inr x)
  | _ => none
def dlook (kvs : List (Key × D)) (k : Key) : Option D := (kvs.find? fun kv => decide (kv.1 = k)).map (·.2)
theorem keyD_ok {K : Kx} {F : Hp} {x : V} {d : D} {k : Key} (r : Dr K F x d) (h : keyD d = some k) : x = kV k := by
  cases r <;> simp only [keyD] at h <;> first | (cases h; rfl) | cases h
theorem drv_look {K : Kx} {F : Hp} {k : Key} {d : D} : ∀ {kvs : List (Key × V)} {ds : List (Key × D)}, Drv K F kvs ds → dlook ds k = some d → ∃ v, valV kvs k = some v ∧ Dr K F v d
  | _, _, .nil, h => by cases h
  | _, _, .cons (a := p) (b := q) r t, h => by
    unfold dlook at h
    rw [List.find?_cons] at h
    by_cases e : q.1 = k
    · rw [decide_eq_true e] at h
      cases h
      exact ⟨p.2, valV_pos (r.1.trans e), r.2⟩
    · rw [decide_eq_false e] at h
      obtain ⟨v, h1, h2⟩ := drv_look t h
      exact ⟨v, (valV_neg (fun z => e (r.1.symm.trans z))).trans h1, h2⟩
theorem drv_len {K : Kx} {F : Hp} : ∀ {kvs : List (Key × V)} {ds : List (Key × D)}, Drv K F kvs ds → kvs.length = ds.length
  | _, _, .nil => rfl
  | _, _, .cons r t => by simp [drv_len t]
def asDk (st : List Cn) : Val → Option (List (Key × D))
  | .obj n => match st[n]? with
    | some (.dk kvs) => some kvs
    | _ => none
  | .fr (.dk kvs) => some kvs
  | .bor (.dk kvs) => some kvs
  | _ => none
theorem VR.dk {K : Kx} {F H : Hp} {os : List Addr} {st : List Cn} {x : V} {v : Val} (k : StOk K F os H st) (r : VR K F os H x v) {kvs : List (Key × D)} (e : asDk st v = some kvs) : ∃ p kvs', x = .ref p ∧ H p = some (.dK kvs') ∧ Drv K F kvs' kvs := by
  cases r with
  | dat r => cases e
  | fr a b c d =>
    cases d with
    | lst d => cases e
    | dk d => cases e; exact ⟨_, _, rfl, c, d⟩
  | bor a b c d =>
    cases d with
    | lst d => cases e
    | dk d => cases e; exact ⟨_, _, rfl, c, d⟩
  | obj a =>
    simp only [asDk] at e
    split at e
    · rename_i kvs' h
      cases e
      obtain ⟨f, o, h1, h2⟩ := k.stv _ _ _ a h
      cases h2 with
      | dk d => exact ⟨_, _, rfl, h1, d⟩
    · cases e
  | scr a b => cases e
def getM (ma mb : EM) : EM := fun env st => (ma env st).bind fun v st1 => (mb env st1).bind fun w st2 => Ou.of st2 (match asDk st2 v, w with
  | some kvs, .dat d => (keyD d).bind fun k => (dlook kvs k).map .dat
  | _, _ => none)
theorem pe_get (hu : X.A.units + 1 < cLine) (ha : PE X a (tM (kx X ec) W ma)) (hb : PE X b (tM (kx X ec) W mb)) (hs : NoSl b) : PE X (.Subscript a b pos) (tM (kx X ec) W (getM ma mb)) :=
  (pe_dget hu ha hb hs).imp fun σ H Q h => by
    obtain ⟨B, F, os, env, st, R, h⟩ := h
    refine ⟨B, F, os, env, st, R, h.bind ?_⟩
    intro v st1 x F1 os1 H1 ev e1 k1 r1 f1 p1
    refine ⟨B, F1, os1, env, st1, R.ext e1 k1, (p1.shift e1).bind ?_⟩
    intro w st2 y F2 os2 H2 ew e2 k2 r2 f2 p2
    obtain ⟨z, hz, q⟩ := p2.of
    split at hz
    · rename_i kvs d h1
      cases hk : keyD d with
      | none => rw [hk] at hz; cases hz
      | some kk =>
        rw [hk] at hz
        cases hl : dlook kvs kk with
        | none => simp [hl] at hz
        | some d' =>
          simp [hl] at hz
          subst hz
          obtain ⟨p, kvs', rfl, hp, dv⟩ := (r1.ext e2).dk k2 h1
          obtain ⟨v', hv, rv⟩ := drv_look dv hl
          cases r2 with
          | dat r2 =>
            have := keyD_ok r2 hk
            subst this
            exact ⟨p, v', rfl, by rw [← hv]; exact DGet.k hp, q _ _ _ _ e2 k2 (.dat rv) Frs.dat⟩
    · cases hz

/-! ### calls of one's own defs -/
abbrev FM := List Val → List Cn → Ou
def spOf (K : Kx) (n : Nat) (fm : FM) : Sp := fun vs H Q E => ∃ F os vals st, StOk K F os H st ∧ VRs K F os H vs vals ∧ vals.all nofr = true ∧ vs.length = n ∧ (match fm vals st with
  | .stk => False
  | .ok v st' => ∀ x F' os' H', Ext F os H F' os' H' → StOk K F' os' H' st' → VR K F' os' H' x v → Frs H x v → Q x H'
  | .exc c d st' => ∀ cls dd F' os' H', Ext F os H F' os' H' → StOk K F' os' H' st' → ErD K F' cls dd c d → E cls dd H')
def callF (n : Nat) (fm : FM) (ra : AM) : EM := fun env st => (ra env st).bind fun vs st1 => if vs.length = n then fm vs st1 else .stk
theorem VRs.len {K : Kx} {F H : Hp} {os : List Addr} : ∀ {vs : List V} {xs : List Val}, VRs K F os H vs xs → vs.length = xs.length
  | _, _, .nil => rfl
  | _, _, .cons _ t => by simp [VRs.len t]
end
end Pl

set_option Elab.async false
set_option linter.all false
set_option maxRecDepth 100000
set_option maxHeartbeats 4000000
namespace Pl
open PySem PySem.Spec PyProof.Rows L2

/-! ### what a statement comes to -/
inductive Os where
  | stk
  | nx (env : Env) (st : List Cn)
  | ret (v : Val) (st : List Cn)
  | brk (env : Env) (st : List Cn)
  | cnt (env : Env) (st : List Cn)
  | exc (c : Nat) (d : D) (env : Env) (st : List Cn)
abbrev SM := Env → List Cn → Os
def Ou.bindS (o : Ou) (env : Env) (k : Val → List Cn → Os) : Os := match o with
  | .stk => .stk
  | .ok v st => k v st
  | .exc c d st => .exc c d env st
@[simp] theorem Ou.bindS_stk (e k) : Ou.stk.bindS e k = .stk := rfl
@[simp] theorem Ou.bindS_ok (v st e k) : (Ou.ok v st).bindS e k = k v st := rfl
@[simp] theorem Ou.bindS_exc (c d st e k) : (Ou.exc c d st).bindS e k = .exc c d e st := rfl
def PoS (X : Kx) (W : WX) (B : Bs) (o : Os) (E : Ends) : Prop := match o with
  | .stk => False
  | .nx env st => ∀ F os σ H, Rel X B F os σ H env st → E.nx σ H
  | .brk env st => ∀ F os σ H, Rel X B F os σ H env st → E.bk σ H
  | .cnt env st => ∀ F os σ H, Rel X B F os σ H env st → E.ct σ H
  | .ret v st => ∀ x F os H, Ext B.F B.os B.H F os H → StOk X F os H st → VR X F os H x v → Frs B.H x v → E.rt x H
  | .exc c d env st => ∀ cls dd F os σ H, Rel X B F os σ H env st → ErD X F cls dd c d → W cls dd σ H
def tS (X : Kx) (W : WX) (m : SM) : TS := fun E σ H => ∃ B F os env st, Rel X B F os σ H env st ∧ PoS X W B (m env st) E
section
variable {X : Kx} {W : WX} {B : Bs} {σ : L2.St} {F H : Hp} {os : List Addr} {env : Env} {st : List Cn}
theorem PoS.bind {o : Ou} {k : Val → List Cn → Os} {E : Ends} {Q1 : VK} (R : Rel X B F os σ H env st) (h : PoS X W B (o.bindS env k) E)
    (hk : ∀ v st1 x F1 os1 H1, o = .ok v st1 → Ext F os H F1 os1 H1 → Rel X B F1 os1 σ H1 env st1 → VR X F1 os1 H1 x v → Frs H x v → PoS X W B (k v st1) E → Q1 x H1) : Po X W σ F os H o Q1 := by
  cases o with
  | stk => exact h
  | ok v st1 => exact fun x F1 os1 H1 e q r f => hk v st1 x F1 os1 H1 rfl e (R.ext e q) r f h
  | exc c d st1 => exact fun cls dd F1 os1 H1 e q r => h cls dd F1 os1 σ H1 (R.ext e q) r
theorem PoS.bindT {o : Ou} {k : Val → List Cn → Os} {E : Ends} {Q1 : Bool → Hp → Prop} (R : Rel X B F os σ H env st) (h : PoS X W B (o.bindS env k) E)
    (hb : ∀ v st1, o = .ok v st1 → PoS X W B (k v st1) E → ∃ b, v = .dat (.bool b))
    (hk : ∀ b st1 F1 os1 H1, o = .ok (.dat (.bool b)) st1 → Rel X B F1 os1 σ H1 env st1 → PoS X W B (k (.dat (.bool b)) st1) E → Q1 b H1) : PoT X W σ F os H o Q1 := by
  cases o with
  | stk => exact h
  | ok v st1 =>
    obtain ⟨b, e⟩ := hb v st1 rfl h
    subst e
    exact ⟨b, rfl, fun F1 os1 H1 e q => hk b st1 F1 os1 H1 rfl (R.ext e q) h⟩
  | exc c d st1 => exact fun cls dd F1 os1 H1 e q r => h cls dd F1 os1 σ H1 (R.ext e q) r

/-! ### names stored -/
def nobor : Val → Bool
  | .bor _ => false
  | _ => true
theorem Rel.set {i : Nat} {x : V} {v : Val} (R : Rel X B F os σ H env st) (r : VR X F os H x v) (hb : nobor v = true)
    (hf : ∀ c p, v = .fr c → x = .ref p → B.H p = none ∧ ∀ j c', j ≠ i → env[j]? = some (some (.fr c')) → σ[j]? ≠ some (some (.ref p))) : Rel X B F os (σ.set i (some x)) H (env.set i (some v)) st where
  ok := R.ok
  len := by simp [R.len]
  slv := fun j u h => by
    by_cases e : j = i
    · subst e
      have hl : j < env.length := by
        have := (List.getElem?_eq_some_iff.mp h).1
        simpa using this
      rw [List.getElem?_set_self hl] at h
      cases h
      exact ⟨x, by rw [List.getElem?_set_self (by rw [← R.len]; exact hl)], r⟩
    · rw [List.getElem?_set_ne (Ne.symm e)] at h
      obtain ⟨y, a, b⟩ := R.slv j u h
      exact ⟨y, by rw [List.getElem?_set_ne (Ne.symm e)]; exact a, b⟩
  own := fun j k c c' p ne h1 h2 h3 h4 => by
    by_cases e : j = i
    · subst e
      have hl : j < env.length := by
        have := (List.getElem?_eq_some_iff.mp h1).1
        simpa using this
      rw [List.getElem?_set_self hl] at h1
      rw [List.getElem?_set_self (by rw [← R.len]; exact hl)] at h3
      cases h1
      cases h3
      rw [List.getElem?_set_ne ne] at h2 h4
      exact (hf c p rfl rfl).2 k c' (Ne.symm ne) h2 h4
    · rw [List.getElem?_set_ne (Ne.symm e)] at h1 h3
      by_cases e2 : k = i
      · subst e2
        have hl : k < env.length := by
          have := (List.getElem?_eq_some_iff.mp h2).1
          simpa using this
        rw [List.getElem?_set_self hl] at h2
        rw [List.getElem?_set_self (by rw [← R.len]; exact hl)] at h4
        cases h2
        cases h4
        exact (hf c' p rfl rfl).2 j c ne h1 h3
      · rw [List.getElem?_set_ne (Ne.symm e2)] at h2 h4
        exact R.own j k c c' p ne h1 h2 h3 h4
  ownB := fun j c p h1 h3 => by
    by_cases e : j = i
    · subst e
      have hl : j < env.length := by
        have := (List.getElem?_eq_some_iff.mp h1).1
        simpa using this
      rw [List.getElem?_set_self hl] at h1
      rw [List.getElem?_set_self (by rw [← R.len]; exact hl)] at h3
      cases h1
      cases h3
      exact (hf c p rfl rfl).1
    · rw [List.getElem?_set_ne (Ne.symm e)] at h1 h3
      exact R.ownB j c p h1 h3
  borB := fun j c p h1 h3 => by
    by_cases e : j = i
    · subst e
      have hl : j < env.length := by
        have := (List.getElem?_eq_some_iff.mp h1).1
        simpa using this
      rw [List.getElem?_set_self hl] at h1
      cases h1
      cases hb
    · rw [List.getElem?_set_ne (Ne.symm e)] at h1 h3
      exact R.borB j c p h1 h3
  bs := R.bs
  pin := R.pin
/-- what is fresh of an elder heap at which the relation held -/
theorem Rel.frs {F0 H0 : Hp} {os0 : List Addr} {st0 : List Cn} {x : V} {v : Val} (R0 : Rel X B F0 os0 σ H0 env st0) (f : Frs H0 x v) (i : Nat) :
    ∀ c p, v = .fr c → x = .ref p → B.H p = none ∧ ∀ j c', j ≠ i → env[j]? = some (some (.fr c')) → σ[j]? ≠ some (some (.ref p)) := fun c p e1 e2 => by
  have hp := f c p e1 e2
  refine ⟨R0.bs.nn hp, fun j c' _ h1 h2 => ?_⟩
  obtain ⟨y, a, b⟩ := R0.slv j _ h1
  rw [h2] at a
  cases a
  cases b with
  | fr _ _ q _ => rw [hp] at q; cases q
theorem Rel.setF {F0 H0 : Hp} {os0 : List Addr} {st0 : List Cn} {i : Nat} {x : V} {v : Val} (R : Rel X B F os σ H env st) (R0 : Rel X B F0 os0 σ H0 env st0) (r : VR X F os H x v) (hb : nobor v = true) (f : Frs H0 x v) : Rel X B F os (σ.set i (some x)) H (env.set i (some v)) st :=
  R.set r hb (R0.frs f i)
/-- a container of one's own is written -/
theorem Rel.write {i : Nat} {p : Addr} {o' : HO} {c c' : Cn} (R : Rel X B F os σ H env st) (he : env[i]? = some (some (.fr c))) (hs : σ[i]? = some (some (.ref p))) (hc : CnR X F o' c') : Rel X B F os σ (upd H p o') (env.set i (some (.fr c'))) st := by
  obtain ⟨y, a, b⟩ := R.slv i _ he
  rw [hs] at a
  cases a
  cases b with
  | @fr _ o _ hf ho hp _ =>
  have hB := R.ownB i c p he hs
  have hl := (List.getElem?_eq_some_iff.mp he).1
  refine ⟨⟨fun a u h => ?_, R.ok.len, fun n a k h1 h2 => ?_, R.ok.nd⟩, by simp [R.len], fun j u h => ?_, fun j k d d' q ne h1 h2 h3 h4 => ?_, fun j d q h1 h3 => ?_, fun j d q h1 h3 => ?_, ⟨R.bs.fz, fun a u h hn => ?_, R.bs.new, R.bs.os, fun a h => upd_ne_none (R.bs.dom a h)⟩, R.pin⟩
  · rw [upd_ne (fun z => by rw [z, hf] at h; cases h)]; exact R.ok.sub _ _ h
  · obtain ⟨f, u, q, r⟩ := R.ok.stv n a k h1 h2
    have ne : a ≠ p := fun z => ho (z ▸ List.mem_of_getElem? h1)
    exact ⟨f, u, by rw [upd_ne ne]; exact q, r⟩
  · by_cases e : j = i
    · subst e
      rw [List.getElem?_set_self hl] at h
      cases h
      exact ⟨_, hs, .fr hf ho upd_same hc⟩
    · rw [List.getElem?_set_ne (Ne.symm e)] at h
      obtain ⟨y, a, b⟩ := R.slv j u h
      refine ⟨y, a, ?_⟩
      cases b with
      | dat r => exact .dat r
      | @fr q u d f1 o1 h1 r1 =>
        have ne : q ≠ p := fun z => R.own i j c d p (Ne.symm e) he h hs (by rw [a, z])
        exact .fr f1 o1 (by rw [upd_ne ne]; exact h1) r1
      | @bor q u d f1 o1 h1 r1 =>
        have ne : q ≠ p := fun z => R.borB j d q h a (by rw [z]; exact hB)
        exact .bor f1 o1 (by rw [upd_ne ne]; exact h1) r1
      | obj r => exact .obj r
      | scr r s => exact .scr r s
  · by_cases e : j = i
    · subst e
      rw [List.getElem?_set_self hl] at h1
      cases h1
      rw [List.getElem?_set_ne ne] at h2
      exact R.own j k c d' q ne he h2 h3 h4
    · rw [List.getElem?_set_ne (Ne.symm e)] at h1
      by_cases e2 : k = i
      · subst e2
        rw [List.getElem?_set_self hl] at h2
        cases h2
        exact R.own j k d c q ne h1 he h3 h4
      · rw [List.getElem?_set_ne (Ne.symm e2)] at h2
        exact R.own j k d d' q ne h1 h2 h3 h4
  · by_cases e : j = i
    · subst e
      exact R.ownB j c q he h3
    · rw [List.getElem?_set_ne (Ne.symm e)] at h1
      exact R.ownB j d q h1 h3
  · by_cases e : j = i
    · subst e
      rw [List.getElem?_set_self hl] at h1
      cases h1
    · rw [List.getElem?_set_ne (Ne.symm e)] at h1
      exact R.borB j d q h1 h3
  · rw [upd_ne (fun z => by rw [z, hB] at h; cases h)]; exact R.bs.keep _ _ h hn
/-- an object of the store is written -/
theorem Rel.writeO {n : Nat} {p : Addr} {o' : HO} {c' : Cn} (R : Rel X B F os σ H env st) (ho : os[n]? = some p) (hc : CnR X F o' c') : Rel X B F os σ (upd H p o') env (st.set n c') := by
  have hm : p ∈ os := List.mem_of_getElem? ho
  obtain ⟨o, hp, hf⟩ := R.ok.live hm
  have hn : n < st.length := by rw [← R.ok.len]; exact (List.getElem?_eq_some_iff.mp ho).1
  refine ⟨⟨fun a u h => ?_, by simp [R.ok.len], fun k a d h1 h2 => ?_, R.ok.nd⟩, R.len, fun j u h => ?_, R.own, R.ownB, R.borB, ⟨R.bs.fz, fun a u h hno => ?_, R.bs.new, R.bs.os, fun a h => upd_ne_none (R.bs.dom a h)⟩, R.pin⟩
  · rw [upd_ne (fun z => by rw [z, hf] at h; cases h)]; exact R.ok.sub _ _ h
  · by_cases e : k = n
    · subst e
      rw [ho] at h1
      cases h1
      rw [List.getElem?_set_self hn] at h2
      cases h2
      exact ⟨hf, o', upd_same, hc⟩
    · rw [List.getElem?_set_ne (Ne.symm e)] at h2
      obtain ⟨f, u, q, r⟩ := R.ok.stv k a d h1 h2
      have ne : a ≠ p := fun z => by
        subst z
        obtain ⟨l1, e1⟩ := List.getElem?_eq_some_iff.mp h1
        obtain ⟨l2, e2⟩ := List.getElem?_eq_some_iff.mp ho
        exact e ((List.getElem_inj R.ok.nd).mp (e1.trans e2.symm))
      exact ⟨f, u, by rw [upd_ne ne]; exact q, r⟩
  · obtain ⟨y, a, b⟩ := R.slv j u h
    refine ⟨y, a, ?_⟩
    cases b with
    | dat r => exact .dat r
    | @fr q u d f1 o1 h1 r1 => 
      have ne : q ≠ p := fun z => o1 (by rw [z]; exact hm)
      exact .fr f1 o1 (by rw [upd_ne ne]; exact h1) r1
    | @bor q u d f1 o1 h1 r1 => 
      have ne : q ≠ p := fun z => o1 (by rw [z]; exact hm)
      exact .bor f1 o1 (by rw [upd_ne ne]; exact h1) r1
    | obj r => exact .obj r
    | scr r s => exact .scr r s
  · by_cases e : a = p
    · subst e
      obtain ⟨m, e1, e2⟩ := R.bs.os
      rw [e1] at hm
      rcases List.mem_append.mp hm with z | z
      · exact absurd z hno
      · rw [e2 _ z] at h; cases h
    · rw [upd_ne e]; exact R.bs.keep _ _ h hno
/-- a name's container is frozen -/
theorem Rel.freeze {i : Nat} {c : Cn} (R : Rel X B F os σ H env st) (he : env[i]? = some (some (.fr c))) : ∃ F', Rel X B F' os σ H (env.set i (some (.dat (cnD c)))) st := by
  obtain ⟨y, a, b⟩ := R.slv i _ he
  cases b with
  | @fr p o _ hf ho hp r =>
  have hB := R.ownB i _ p he a
  have hl := (List.getElem?_eq_some_iff.mp he).1
  obtain ⟨e2, k2, r2⟩ := Pl.freeze R.bs R.ok hp hB hf ho r
  have s := same_upd (o := o) hf
  refine ⟨upd F p o, ⟨k2, by simp [R.len], fun j u h => ?_, fun j k d d' q ne h1 h2 h3 h4 => ?_, fun j d q h1 h3 => ?_, fun j d q h1 h3 => ?_, e2, R.pin.trans s⟩⟩
  · by_cases e : j = i
    · subst e
      rw [List.getElem?_set_self hl] at h
      cases h
      exact ⟨_, a, .dat r2⟩
    · rw [List.getElem?_set_ne (Ne.symm e)] at h
      obtain ⟨y, a', b⟩ := R.slv j u h
      refine ⟨y, a', ?_⟩
      cases b with
      | dat r => exact .dat (Dr.mono s _ _ r)
      | @fr q u d f1 o1 h1 r1 =>
        have ne : q ≠ p := fun z => R.own i j _ d p (Ne.symm e) he h a (by rw [a', z])
        exact .fr (by rw [upd_ne ne]; exact f1) o1 h1 (r1.mono s)
      | @bor q u d f1 o1 h1 r1 =>
        have ne : q ≠ p := fun z => R.borB j d q h a' (by rw [z]; exact hB)
        exact .bor (by rw [upd_ne ne]; exact f1) o1 h1 (r1.mono s)
      | obj r => exact .obj r
      | scr r s' => exact .scr (Same.sqL s r) (Drs.mono s _ _ s')
  · by_cases e : j = i
    · subst e
      rw [List.getElem?_set_self hl] at h1
      cases h1
    · rw [List.getElem?_set_ne (Ne.symm e)] at h1
      by_cases e2 : k = i
      · subst e2
        rw [List.getElem?_set_self hl] at h2
        cases h2
      · rw [List.getElem?_set_ne (Ne.symm e2)] at h2
        exact R.own j k d d' q ne h1 h2 h3 h4
  · by_cases e : j = i
    · subst e
      rw [List.getElem?_set_self hl] at h1
      cases h1
    · rw [List.getElem?_set_ne (Ne.symm e)] at h1
      exact R.ownB j d q h1 h3
  · by_cases e : j = i
    · subst e
      rw [List.getElem?_set_self hl] at h1
      cases h1
    · rw [List.getElem?_set_ne (Ne.symm e)] at h1
      exact R.borB j d q h1 h3
end

section
variable {X : Cx} {ec : List (Addr × Str)} {W : WX} {e a b c : Expr} {ma mb mc m : EM} {pos : Pos} {s : Stmt} {ss : List Stmt} {ms mt mu : SM}
/-- i is frozen ahead of the statement -/
def fzM (i : Nat) (m : SM) : SM := fun env st => match env[i]? with
  | some (some (.fr c)) => m (env.set i (some (.dat (cnD c)))) st
  | _ => m env st
theorem fz_ok {K : Kx} {i : Nat} {E : Ends} {σ : L2.St} {H : Hp} (h : tS K W (fzM i ms) E σ H) : tS K W ms E σ H := by
  obtain ⟨B, F, os, env, st, R, h⟩ := h
  unfold fzM at h
  split at h
  · rename_i ds he
    obtain ⟨F', R'⟩ := R.freeze he
    exact ⟨B, F', os, _, st, R', h⟩
  · exact ⟨B, F, os, env, st, R, h⟩
theorem ps_fz (i : Nat) (h : PS X s (tS (kx X ec) W ms)) : PS X s (tS (kx X ec) W (fzM i ms)) := h.imp fun _ _ _ => fz_ok
theorem pss_fz (i : Nat) (h : PSs X ss (tS (kx X ec) W ms)) : PSs X ss (tS (kx X ec) W (fzM i ms)) := h.imp fun _ _ _ => fz_ok

/-! ### blocks -/
def nilM : SM := fun env st => .nx env st
def seqM (m1 m2 : SM) : SM := fun env st => match m1 env st with
  | .nx env' st' => m2 env' st'
  | o => o
theorem pss_n : PSs X [] (tS (kx X ec) W nilM) := pss_nil.imp fun E σ H h => by
  obtain ⟨B, F, os, env, st, R, h⟩ := h
  exact h F os σ H R
theorem seq_ok {K : Kx} {E : Ends} {σ : L2.St} {H : Hp} (h : tS K W (seqM ms mt) E σ H) : tSeq (tS K W ms) (tS K W mt) E σ H := by
  obtain ⟨B, F, os, env, st, R, h⟩ := h
  refine ⟨B, F, os, env, st, R, ?_⟩
  unfold seqM at h
  cases hm : ms env st <;> rw [hm] at h
  case nx env' st' => exact fun F1 os1 σ1 H1 R1 => ⟨B, F1, os1, env', st', R1, h⟩
  all_goals exact h
theorem pss_c (h1 : PS X s (tS (kx X ec) W ms)) (h2 : PSs X ss (tS (kx X ec) W mt)) : PSs X (s :: ss) (tS (kx X ec) W (seqM ms mt)) := (pss_cons h1 h2).imp fun _ _ _ => seq_ok
theorem pss_1 (h1 : PS X s (tS (kx X ec) W ms)) : PSs X [s] (tS (kx X ec) W ms) := pss_one h1
theorem ps_p : PS X (.Pass pos) (tS (kx X ec) W nilM) := ps_pass.imp fun E σ H h => by
  obtain ⟨B, F, os, env, st, R, h⟩ := h
  exact h F os σ H R
def brkM : SM := fun env st => .brk env st
def cntM : SM := fun env st => .cnt env st
theorem ps_b : PS X (.Break pos) (tS (kx X ec) W brkM) := ps_break.imp fun E σ H h => by
  obtain ⟨B, F, os, env, st, R, h⟩ := h
  exact h F os σ H R
theorem ps_ct : PS X (.Continue pos) (tS (kx X ec) W cntM) := ps_continue.imp fun E σ H h => by
  obtain ⟨B, F, os, env, st, R, h⟩ := h
  exact h F os σ H R
theorem ps_d {x j pos pos'} : PS X (.Expr (.Constant (.str x) j pos) pos') (tS (kx X ec) W nilM) := ps_doc.imp fun E σ H h => by
  obtain ⟨B, F, os, env, st, R, h⟩ := h
  exact h F os σ H R

/-! ### assignments -/
def setM (i : Nat) (m : EM) : SM := fun env st => (m env st).bindS env fun v st1 => if nobor v = true then .nx (env.set i (some v)) st1 else .stk
theorem set_ok {K : Kx} {i : Nat} {E : Ends} {σ : L2.St} {H : Hp} (h : tS K W (setM i m) E σ H) : tAsg (tM K W m) (gName i) E σ H := by
  obtain ⟨B, F, os, env, st, R, h⟩ := h
  refine ⟨B, F, os, env, st, R, PoS.bind R h ?_⟩
  intro v st1 x F1 os1 H1 ev e1 R1 r1 f1 p1
  split at p1
  · rename_i hb
    exact p1 F1 os1 _ H1 (R1.setF R r1 hb f1)
  · exact False.elim p1
theorem ps_s {i : Nat} {x : Str} {pos' : Pos} (hN : X.N.Nodup) (hi : X.N[i]? = some x) (hx : Loc X.env.scope x) (he : PE X e (tM (kx X ec) W m)) (hs : swapsWith e (some (.Name x pos')) pos.line X.env = pure false := by rfl) (hf : X.fn x = true ∨ X.env.scope.names.lookup x = some .local := by first | exact .inl rfl | exact .inr rfl | assumption) :
    PS X (.Assign [.Name x pos'] e pos) (tS (kx X ec) W (setM i m)) := (ps_set hN hi hx he hs hf).imp fun _ _ _ => set_ok
/-- a, b = .., .. -/
def parM (i j : Nat) (ma mb : EM) : SM := fun env st => (ma env st).bindS env fun v st1 => (mb env st1).bindS env fun w st2 => if nobor v = true ∧ nobor w = true then .nx ((env.set i (some v)).set j (some w)) st2 else .stk
theorem par_ok {K : Kx} {i j : Nat} (hij : i ≠ j) {E : Ends} {σ : L2.St} {H : Hp} (h : tS K W (parM i j ma mb) E σ H) : tPar i j (tCons (tM K W ma) (tCons (tM K W mb) tNil)) E σ H := by
  obtain ⟨B, F, os, env, st, R, h⟩ := h
  refine ⟨B, F, os, env, st, R, PoS.bind R h ?_⟩
  intro v st1 x F1 os1 H1 ev e1 R1 r1 f1 p1
  refine ⟨B, F1, os1, env, st1, R1, PoS.bind R1 p1 ?_⟩
  intro w st2 y F2 os2 H2 ew e2 R2 r2 f2 p2
  split at p2
  · rename_i hb
    refine ⟨x, y, rfl, p2 F2 os2 _ H2 ?_⟩
    have q1 : Rel K B F2 os2 (σ.set i (some x)) H2 (env.set i (some v)) st2 := R2.setF R (r1.ext e2) hb.1 f1
    refine q1.set r2 hb.2 fun c p ev ex => ?_
    have hp := f2 c p ev ex
    refine ⟨R1.bs.nn hp, fun k c' ne h1 h2 => ?_⟩
    by_cases e : k = i
    · subst e
      have hl : k < env.length := by
        have := (List.getElem?_eq_some_iff.mp h1).1
        simpa using this
      rw [List.getElem?_set_self hl] at h1
      rw [List.getElem?_set_self (by rw [← R.len]; exact hl)] at h2
      cases h1
      cases h2
      cases r1 with
      | fr _ _ q _ => rw [hp] at q; cases q
    · rw [List.getElem?_set_ne (Ne.symm e)] at h1 h2
      exact (R1.frs f2 j c p ev ex).2 k c' ne h1 h2
  · exact False.elim p2
theorem ps_pr {i j : Nat} {x y : Str} {px py pt : Pos} {kt k2 pt2} (hc : X.calm = true) (hN : X.N.Nodup) (hi : X.N[i]? = some x) (hj : X.N[j]? = some y) (hij : i ≠ j)
    (hx : X.env.scope.names.lookup x = some .local) (hy : X.env.scope.names.lookup y = some .local) (ha : PE X a (tM (kx X ec) W ma)) (hb : PE X b (tM (kx X ec) W mb))
    (hw : swappedStores [.Tuple [.Name x px, .Name y py] kt pt] (.Tuple [a, b] k2 pt2) X.env = pure (some [x, y]))
    (hs : swapsWithSole [.Tuple [.Name x px, .Name y py] kt pt] (.Tuple [a, b] k2 pt2) pos.line X.env = pure false := by rfl)
    (h1 : starEach [a, b] X.env = (false, eval a X.env) :: starEach [b] X.env := by rfl) (h2 : starEach [b] X.env = (false, eval b X.env) :: starEach [] X.env := by rfl) :
    PS X (.Assign [.Tuple [.Name x px, .Name y py] kt pt] (.Tuple [a, b] k2 pt2) pos) (tS (kx X ec) W (parM i j ma mb)) :=
  (ps_par hc hN hi hj hij hx hy (pa_cons ha (pa_cons hb pa_nil h2) h1) hw hs).imp fun _ _ _ => par_ok hij
/-- x op= e, x data -/
def augM (i : Nat) (g : Val → Val → Option Val) (m : EM) : SM := fun env st => match env[i]? with
  | some (some (.dat d)) => (m env st).bindS env fun w st1 => match g (.dat d) w with
    | some z => if nobor z = true then .nx (env.set i (some z)) st1 else .stk
    | none => .stk
  | _ => .stk
theorem aug_ok {K : Kx} {i : Nat} {r : R2} {g : Val → Val → Option Val} (hsn : Snd2 K r g) {E : Ends} {σ : L2.St} {H : Hp} (h : tS K W (augM i g m) E σ H) : tAug i (tM K W m) r E σ H := by
  obtain ⟨B, F, os, env, st, R, h⟩ := h
  unfold augM at h
  split at h
  · rename_i d hd
    obtain ⟨x, hx, rx⟩ := R.slv i _ hd
    refine ⟨x, hx, B, F, os, env, st, R, PoS.bind R h ?_⟩
    intro w st1 y F1 os1 H1 ew e1 R1 r1 f1 p1
    cases hg : g (.dat d) w with
    | none => rw [hg] at p1; exact False.elim p1
    | some z =>
      rw [hg] at p1
      dsimp only at p1
      split at p1
      · rename_i hb
        refine hsn F1 os1 H1 st1 x y (.dat d) w z _ R1.ok (rx.ext e1) r1 hg fun x' F' H' e k r f => ?_
        exact p1 F' os1 _ H' ((R1.ext e k).setF R1 r hb f)
      · exact False.elim p1
  · exact False.elim h
theorem ps_au {i : Nat} {x : Str} {op : Operator} {r : R2} {g : Val → Val → Option Val} {pos' : Pos} (ho : OpR X (inplaceOp op) r) (hsn : Snd2 (kx X ec) r g) (hN : X.N.Nodup) (hi : X.N[i]? = some x) (hx : Loc X.env.scope x) (he : PE X e (tM (kx X ec) W m)) (hf : X.fn x = true ∨ X.env.scope.names.lookup x = some .local := by first | exact .inl rfl | exact .inr rfl | assumption) :
    PS X (.AugAssign (.Name x pos') op e pos) (tS (kx X ec) W (augM i g m)) := (ps_aug hN hi hx he (fun pins s σ H x y v u Q I rx ry q => ho pins s σ H x y v u Q I rx ry q) hf).imp fun _ _ _ => aug_ok hsn
/-- an expression alone -/
def exM (m : EM) : SM := fun env st => (m env st).bindS env fun _ st1 => .nx env st1
theorem ps_ex (he : PE X e (tM (kx X ec) W m)) (hs : swapsWith e none pos.line X.env = pure false := by rfl) : PS X (.Expr e pos) (tS (kx X ec) W (exM m)) := (ps_expr he hs).imp fun E σ H h => by
  obtain ⟨B, F, os, env, st, R, h⟩ := h
  exact ⟨B, F, os, env, st, R, PoS.bind R h fun v st1 x F1 os1 H1 ev e1 R1 r1 f1 p1 => p1 F1 os1 σ H1 R1⟩
def retM (m : EM) : SM := fun env st => (m env st).bindS env fun v st1 => if nobor v = true then .ret v st1 else .stk
theorem ps_r (he : PE X e (tM (kx X ec) W m)) : PS X (.Return (some e) pos) (tS (kx X ec) W (retM m)) := (ps_ret he).imp fun E σ H h => by
  obtain ⟨B, F, os, env, st, R, h⟩ := h
  refine ⟨B, F, os, env, st, R, PoS.bind R h fun v st1 x F1 os1 H1 ev e1 R1 r1 f1 p1 => ?_⟩
  split at p1
  · exact p1 x F1 os1 H1 R1.bs R1.ok r1 fun c p ev ex => R.bs.nn (f1 c p ev ex)
  · exact False.elim p1
def retN : SM := fun _ st => .ret (.dat .none) st
theorem ps_rn : PS X (.Return none pos) (tS (kx X ec) W retN) := ps_retN.imp fun E σ H h => by
  obtain ⟨B, F, os, env, st, R, h⟩ := h
  exact h _ F os H R.bs R.ok (.dat .non) Frs.dat
def ifS (mc : EM) (mt mu : SM) : SM := fun env st => (mc env st).bindS env fun v st1 => match v with
  | .dat (.bool true) => mt env st1
  | .dat (.bool false) => mu env st1
  | _ => .stk
theorem ps_i {ts us : List Stmt} (hc : PT X c (tT (kx X ec) W mc)) (ht : PSs X ts (tS (kx X ec) W mt)) (hu : PSs X us (tS (kx X ec) W mu)) : PS X (.If c ts us pos) (tS (kx X ec) W (ifS mc mt mu)) := (ps_if hc ht hu).imp fun E σ H h => by
  obtain ⟨B, F, os, env, st, R, h⟩ := h
  refine ⟨B, F, os, env, st, R, PoS.bindT R h (fun v st1 _ p => ?_) fun b st1 F1 os1 H1 _ R1 p => ?_⟩
  · split at p
    · exact ⟨_, rfl⟩
    · exact ⟨_, rfl⟩
    · exact False.elim p
  · cases b with
    | true => exact iteT ⟨B, F1, os1, env, st1, R1, p⟩
    | false => exact iteF ⟨B, F1, os1, env, st1, R1, p⟩

/-! ### changes in place -/
/-- xs.append(e), xs a container of one's own -/
def appM (i : Nat) (m : EM) : SM := fun env st => match env[i]? with
  | some (some (.fr (.lst ds))) => (m env st).bindS env fun v st1 => match asDat v with
    | some d => if ds.length < sizeLine then .nx (env.set i (some (.fr (.lst (ds ++ [d]))))) st1 else .stk
    | none => .stk
  | _ => .stk
theorem frz_asDat {v : Val} {d : D} (h : asDat v = some d) : v.frz = some (.dat d) := by
  cases v with
  | dat e => cases h; rfl
  | fr c => cases h; rfl
  | bor c => cases h
  | obj n => cases h
  | scr ds => cases h
/-- the value is handed on as data -/
theorem Po.dat {K : Kx} {σ : L2.St} {F H : Hp} {os : List Addr} {o : Ou} {Q : VK}
    (h : Po K W σ F os H (o.bind fun v st1 => Ou.of st1 ((asDat v).map .dat)) Q) : Po K W σ F os H o Q := by
  refine h.bind ?_
  intro v st1 x F1 os1 H1 ev e k r f p
  obtain ⟨z, hz, q⟩ := p.of
  cases hd : asDat v with
  | none => rw [hd] at hz; cases hz
  | some d =>
    rw [hd] at hz
    cases hz
    cases r with
    | dat r => cases hd; exact q _ _ _ _ e k (.dat r) Frs.dat
    | fr a b c r =>
      cases hd
      obtain ⟨e2, k2, r2⟩ := Pl.freeze e k c (f _ _ rfl rfl) a b r
      exact q _ _ _ _ e2 k2 (.dat r2) Frs.dat
    | bor a b c r => cases hd
    | obj a => cases hd
    | scr a b => cases hd
theorem ps_ap {i : Nat} {x : Str} {p1 p2 p3 p4 : Pos} (hN : X.N[i]? = some x) (hv : Vis X.env.scope x) (he : PE X e (tM (kx X ec) W m)) (hd : (x == ("__debug__" : Str)) = false := by decide)
    (hcd : (x == ("__classdict__" : Str)) = false := by decide) (hs : swapsWith (.Call (.Attribute (.Name x p1) "append" p2) [e] [] p3) none p4.line X.env = pure false := by rfl)
    (h1 : attributeBase (.Name x p1) "append" X.env (eval (.Name x p1) X.env) = eval (.Name x p1) X.env := by rfl)
    (h2 : ((backTo p3 (starEach [e] X.env)).all (fun x => !x.1) && (backToKw p3 (keywordEach [] X.env)).all (fun x => x.1.isSome) && decide ([e].length + ([] : List Keyword).length + (if ([] : List Keyword).isEmpty then 0 else 1) < 30)) = true := by rfl)
    (h3 : (p2.endLine == p3.line) = true := by rfl) (h4 : starEach [e] X.env = (false, eval e X.env) :: starEach [] X.env := by rfl) (h5 : (backTo p3 (starEach [] X.env)).any (·.1) = false := by rfl) :
    PS X (.Expr (.Call (.Attribute (.Name x p1) "append" p2) [e] [] p3) p4) (tS (kx X ec) W (appM i m)) :=
  (ps_expr (pe_bm PySem.F.plainAttrs_list PySem.F.slot_list_append PySem.F.type_list_append mt_append (pv i hN hv hd hcd) (pa_cons he pa_nil h4) h1 h2 h3 h4 h5) hs).imp fun E σ H h => by
    obtain ⟨B, F, os, env, st, R, h⟩ := h
    unfold appM at h
    split at h
    · rename_i ds hd
      obtain ⟨y, hy, ry⟩ := R.slv i _ hd
      cases ry with
      | @fr p o _ hf ho hp r =>
      cases r with
      | @lst xs _ r =>
      refine ⟨_, hy, .inl ⟨rfl, xs, SqL.of hp⟩, ⟨B, F, os, env, st, R, Po.dat ?_⟩⟩
      cases hm : m env st with
      | stk => rw [hm] at h; exact h
      | exc c d st1 =>
        rw [hm] at h
        exact fun cls dd F1 os1 H1 e k r => h cls dd F1 os1 σ H1 (R.ext e k) r
      | ok v st1 =>
        rw [hm] at h
        dsimp only [Ou.bindS, Ou.bind] at h ⊢
        cases ha : asDat v with
        | none => rw [ha] at h; exact False.elim h
        | some d =>
          rw [ha] at h
          dsimp only at h
          split at h
          · rename_i hl
            intro x' F1 os1 H1 e k rx f
            have R1 := R.ext e k
            have hp1 := e.keep _ _ hp ho
            refine ⟨p, xs, x', rfl, rfl, hp1, by rw [r.len]; exact hl, ?_⟩
            cases rx with
            | dat rx => exact h _ _ _ _ (R1.write hd hy (.lst ((Drs.mono e.fz _ _ r).append (.cons rx .nil))))
          · exact False.elim h
    · exact False.elim h
/-- xs[k] = e, xs a list of one's own -/
def stM (i : Nat) (mk : EM) (m : EM) : SM := fun env st => (m env st).bindS env fun v st1 => match asDat v with
  | some d => match env[i]? with
    | some (some (.fr (.lst ds))) => (mk env st1).bindS env fun w st2 => match w with
      | .dat (.int k) => match ixN ds.length k with
        | some j => .nx (env.set i (some (.fr (.lst (ds.set j d))))) st2
        | none => .stk
      | _ => .stk
    | _ => .stk
  | none => .stk
theorem ps_st {i : Nat} {x : Str} {px pt : Pos} {ek : Expr} {mk : EM} (hN : X.N[i]? = some x) (hv : Vis X.env.scope x) (he : PE X e (tM (kx X ec) W m)) (hk : PE X ek (tM (kx X ec) W mk)) (hd : (x == ("__debug__" : Str)) = false := by decide)
    (hcd : (x == ("__classdict__" : Str)) = false := by decide)
    (ha : ∀ v, assign (.Subscript (.Name x px) ek pt) X.env v = (do
      let ov ← holding [v] (eval (.Name x px) X.env)
      let iv ← holding [v, ov] (eval ek X.env)
      standAt pt
      holding [v, ov, iv] (setItem ov iv v)
      release [v, ov, iv] []) := by intro _; rfl)
    (hs : swapsWithSole [.Subscript (.Name x px) ek pt] e pos.line X.env = pure false := by rfl) (hw : swappedStores [.Subscript (.Name x px) ek pt] e X.env = pure none := by rfl)
    (h1 : (assignEach [.Subscript (.Name x px) ek pt] X.env).map (·.2) = [assign (.Subscript (.Name x px) ek pt) X.env] := by rfl) :
    PS X (.Assign [.Subscript (.Name x px) ek pt] e pos) (tS (kx X ec) W (stM i mk m)) :=
  (ps_asg he (pg_sub (pv i hN hv hd hcd) hk set_list ha) hs hw h1).imp fun E σ H h => by
    obtain ⟨B, F, os, env, st, R, h⟩ := h
    refine ⟨B, F, os, env, st, R, Po.dat ?_⟩
    unfold stM at h
    cases hm : m env st with
    | stk => rw [hm] at h; exact h
    | exc c d st1 =>
      rw [hm] at h
      exact fun cls dd F1 os1 H1 e k r => h cls dd F1 os1 σ H1 (R.ext e k) r
    | ok v st1 =>
      rw [hm] at h
      dsimp only [Ou.bindS, Ou.bind] at h ⊢
      cases ha : asDat v with
      | none => rw [ha] at h; exact False.elim h
      | some d =>
        rw [ha] at h
        dsimp only at h
        split at h
        · rename_i ds hds
          intro x' F1 os1 H1 e k rx f
          have R1 := R.ext e k
          obtain ⟨y, hy, ry⟩ := R1.slv i _ hds
          refine ⟨y, hy, B, F1, os1, env, st1, R1, PoS.bind R1 h ?_⟩
          intro w st2 z F2 os2 H2 ew e2 R2 r2 f2 p2
          split at p2
          · rename_i kk
            cases hj : ixN ds.length kk with
            | none => rw [hj] at p2; exact False.elim p2
            | some j =>
              rw [hj] at p2
              have rz := r2.int
              subst rz
              cases ry.ext e2 with
              | @fr p o _ hf ho hp r =>
              cases r with
              | @lst xs _ r =>
              refine ⟨p, xs, kk, j, rfl, rfl, hp, by rw [r.len]; exact hj, ?_⟩
              cases rx with
              | dat rx => exact p2 _ _ _ _ (R2.write hds hy (.lst (r.set (Dr.mono e2.fz _ _ rx) j)))
          · exact False.elim p2
        · exact False.elim h
/-- d[k] = e, d an object of the store -/
def dput (kvs : List (Key × D)) (k : Key) (v : D) : List (Key × D) :=
  if (kvs.any fun kv => decide (kv.1 = k)) = true then kvs.map (fun kv => if kv.1 = k then (kv.1, v) else kv) else kvs ++ [(k, v)]
theorem drv_any {K : Kx} {F : Hp} {k : Key} : ∀ {kvs : List (Key × V)} {ds : List (Key × D)}, Drv K F kvs ds → (kvs.any fun kv => decide (kv.1 = k)) = (ds.any fun kv => decide (kv.1 = k))
  | _, _, .nil => rfl
  | _, _, .cons r t => by rw [List.any_cons, List.any_cons, drv_any t, r.1]
theorem drv_map {K : Kx} {F : Hp} {k : Key} {v : V} {d : D} (rv : Dr K F v d) : ∀ {kvs : List (Key × V)} {ds : List (Key × D)}, Drv K F kvs ds → Drv K F (kvs.map fun kv => if kv.1 = k then (kv.1, v) else kv) (ds.map fun kv => if kv.1 = k then (kv.1, d) else kv)
  | _, _, .nil => .nil
  | _, _, .cons (a := p) (b := q) r t => by
    rw [List.map_cons, List.map_cons]
    refine .cons ?_ (drv_map rv t)
    rw [r.1]
    by_cases e : q.1 = k
    · rw [if_pos e, if_pos e]; exact ⟨rfl, rv⟩
    · rw [if_neg e, if_neg e]; exact r
theorem drv_app {K : Kx} {F : Hp} {k : Key} {v : V} {d : D} (rv : Dr K F v d) : ∀ {kvs : List (Key × V)} {ds : List (Key × D)}, Drv K F kvs ds → Drv K F (kvs ++ [(k, v)]) (ds ++ [(k, d)])
  | _, _, .nil => .cons ⟨rfl, rv⟩ .nil
  | _, _, .cons r t => .cons r (drv_app rv t)
theorem drv_put {K : Kx} {F : Hp} {k : Key} {v : V} {d : D} (rv : Dr K F v d) {kvs : List (Key × V)} {ds : List (Key × D)} (r : Drv K F kvs ds) : Drv K F (putK kvs k v) (dput ds k d) := by
  unfold putK dput
  rw [drv_any r]
  split
  · exact drv_map rv r
  · exact drv_app rv r
def putM (mo mk m : EM) : SM := fun env st => (m env st).bindS env fun v st1 => match asDat v with
  | some d => (mo env st1).bindS env fun o st2 => match o with
    | .obj n => (mk env st2).bindS env fun w st3 => match w, st3[n]? with
      | .dat kd, some (.dk kvs) => match keyD kd with
        | some kk => if kvs.length < sizeLine then .nx env (st3.set n (.dk (dput kvs kk d))) else .stk
        | none => .stk
      | _, _ => .stk
    | _ => .stk
  | none => .stk
theorem ps_pt {eo ek : Expr} {mo mk : EM} {pt : Pos} (hu : X.A.units + 1 < cLine) (ho : PE X eo (tM (kx X ec) W mo)) (hk : PE X ek (tM (kx X ec) W mk)) (he : PE X e (tM (kx X ec) W m)) (hs : swapsWith e (some (.Subscript eo ek pt)) pos.line X.env = pure false := by rfl) :
    PS X (.Assign [.Subscript eo ek pt] e pos) (tS (kx X ec) W (putM mo mk m)) :=
  (ps_dput hu ho hk he hs).imp fun E σ H h => by
    obtain ⟨B, F, os, env, st, R, h⟩ := h
    refine ⟨B, F, os, env, st, R, Po.dat ?_⟩
    unfold putM at h
    cases hm : m env st with
    | stk => rw [hm] at h; exact h
    | exc c d st1 =>
      rw [hm] at h
      exact fun cls dd F1 os1 H1 e k r => h cls dd F1 os1 σ H1 (R.ext e k) r
    | ok v st1 =>
      rw [hm] at h
      dsimp only [Ou.bindS, Ou.bind] at h ⊢
      cases ha : asDat v with
      | none => rw [ha] at h; exact False.elim h
      | some d =>
        rw [ha] at h
        dsimp only at h
        intro x' F1 os1 H1 e k rx f
        have R1 := R.ext e k
        refine ⟨B, F1, os1, env, st1, R1, PoS.bind R1 h ?_⟩
        intro o st2 y F2 os2 H2 eo2 e2 R2 r2 f2 p2
        split at p2
        · rename_i n
          refine ⟨B, F2, os2, env, st2, R2, PoS.bind R2 p2 ?_⟩
          intro w st3 z F3 os3 H3 ew e3 R3 r3 f3 p3
          split at p3
          · rename_i kd kvs hn
            cases hkk : keyD kd with
            | none => rw [hkk] at p3; exact False.elim p3
            | some kk =>
              rw [hkk] at p3
              dsimp only at p3
              split at p3
              · rename_i hl
                cases r2.ext e3 with
                | @obj p _ hp =>
                obtain ⟨ff, oo, h1, h2⟩ := R3.ok.stv n p _ hp hn
                cases h2 with
                | @dk kvs' _ dv =>
                cases rx with
                | dat rx =>
                cases r3 with
                | dat r3 =>
                have := keyD_ok r3 hkk
                subst this
                exact ⟨p, _, rfl, DPut.k h1 (by rw [drv_len dv]; exact hl), p3 _ _ _ _ (R3.writeO hp (.dk (drv_put (Dr.mono (e2.fz.trans e3.fz) _ _ rx) dv)))⟩
              · exact False.elim p3
          · exact False.elim p3
        · exact False.elim p2

/-! ### while -/
def whlM (mc : EM) (mt : SM) : Nat → SM
  | 0 => fun _ _ => .stk
  | n + 1 => fun env st => (mc env st).bindS env fun v st1 => match v with
    | .dat (.bool true) => match mt env st1 with
      | .nx env' st' => whlM mc mt n env' st'
      | .cnt env' st' => whlM mc mt n env' st'
      | .brk env' st' => .nx env' st'
      | o => o
    | .dat (.bool false) => .nx env st1
    | _ => .stk
theorem whl_ok {K : Kx} {n : Nat} {E : Ends} {σ : L2.St} {H : Hp} (h : tS K W (whlM mc mt n) E σ H) : tWhile (tT K W mc) (tS K W mt) E σ H := by
  refine ⟨fun n σ H => tS K W (whlM mc mt n) E σ H, ⟨n, h⟩, ?_⟩
  rintro n σ H ⟨B, F, os, env, st, R, h⟩
  cases n with
  | zero => exact False.elim h
  | succ n =>
    unfold whlM at h
    refine ⟨B, F, os, env, st, R, PoS.bindT R h (fun v st1 _ p => ?_) fun b st1 F1 os1 H1 _ R1 p => ?_⟩
    · split at p
      · exact ⟨_, rfl⟩
      · exact ⟨_, rfl⟩
      · exact False.elim p
    · cases b with
      | false => exact iteF (p F1 os1 σ H1 R1)
      | true =>
        refine iteT ⟨fun σ' H' => tS K W (whlM mc mt n) E σ' H', fun σ' H' q => ⟨n, Nat.lt_succ_self n, q⟩, B, F1, os1, env, st1, R1, ?_⟩
        dsimp only at p
        cases hm : mt env st1 <;> rw [hm] at p
        case nx env' st' => exact fun F2 os2 σ2 H2 R2 => ⟨B, F2, os2, env', st', R2, p⟩
        case cnt env' st' => exact fun F2 os2 σ2 H2 R2 => ⟨B, F2, os2, env', st', R2, p⟩
        case brk env' st' => exact p
        all_goals exact p
theorem ps_w (n : Nat) {ts : List Stmt} (hp : PassesOwn (model X.prog X.w) X.A X.env X.xe) (hc : PT X c (tT (kx X ec) W mc)) (ht : PSs X ts (tS (kx X ec) W mt)) : PS X (.While c ts [] pos) (tS (kx X ec) W (whlM mc mt n)) := (ps_while hp hc ht).imp fun _ _ _ => whl_ok
end
end Pl

set_option Elab.async false
set_option linter.all false
set_option maxRecDepth 100000
set_option maxHeartbeats 4000000
namespace Pl
open PySem PySem.Spec PyProof.Rows L2

/-! ### what is walked -/
/-- what a turn gives: data as it stands, or a new pair of two -/
def Yd (K : Kx) (F : Hp) (H : Hp) (x : V) (H' : Hp) (d : D) : Prop :=
  (H' = H ∧ Dr K F x d) ∨ ∃ T y z dy dz, x = .ref T ∧ H T = none ∧ H' = upd H T (.tup [y, z]) ∧ d = .tuple [dy, dz] ∧ Dr K F y dy ∧ Dr K F z dz
/-- what the loop leaves as it is: within a block all but the objects, else what is frozen -/
def Stays (blk : Bool) (F : Hp) (os : List Addr) (H : Hp) (H' : Hp) : Prop := if blk = true then ∀ a o, H a = some o → a ∉ os → H' a = some o else Same F H'
def ItOk (K : Kx) (blk : Bool) (F : Hp) (os : List Addr) (H : Hp) (J : It) (items : List D) : Prop :=
  ∃ (G : Hp → Prop) (Y : Nat → Hp → V → Hp → Prop), Walk J items.length G Y ∧ (∀ H', Stays blk F os H H' → G H') ∧
    ∀ i H1 x H2, i < items.length → Stays blk F os H H1 → Y i H1 x H2 → ∃ d, items[i]? = some d ∧ Yd K F H1 x H2 d
inductive Oi where
  | stk
  | ok (items : List D) (st : List Cn)
  | exc (c : Nat) (d : D) (st : List Cn)
abbrev IM := Env → List Cn → Oi
def PoI (X : Kx) (blk : Bool) (W : WX) (σ : L2.St) (F : Hp) (os : List Addr) (H : Hp) (o : Oi) (R : It → Hp → Prop) : Prop := match o with
  | .stk => False
  | .ok items st => ∀ J F' os' H', Ext F os H F' os' H' → StOk X F' os' H' st → ItOk X blk F' os' H' J items → R J H'
  | .exc c d st => ∀ cls dd F' os' H', Ext F os H F' os' H' → StOk X F' os' H' st → ErD X F' cls dd c d → W cls dd σ H'
def tI (X : Kx) (blk : Bool) (W : WX) (m : IM) : TI := fun σ H R => ∃ B F os env st, Rel X B F os σ H env st ∧ PoI X blk W σ F os H (m env st) R
theorem _root_.L2.PI.imp {X : Cx} {tg e : Expr} {t t' : TI} (h : PI X tg e t) (i : ∀ σ H Q, t' σ H Q → t σ H Q) : PI X tg e t' := ⟨fun pins s σ H Q I q => h.run pins s σ H Q I (i _ _ _ q)⟩
def Ou.bindI (o : Ou) (k : Val → List Cn → Oi) : Oi := match o with
  | .stk => .stk
  | .ok v st => k v st
  | .exc c d st => .exc c d st
@[simp] theorem Ou.bindI_stk (k) : Ou.stk.bindI k = .stk := rfl
@[simp] theorem Ou.bindI_ok (v st k) : (Ou.ok v st).bindI k = k v st := rfl
@[simp] theorem Ou.bindI_exc (c d st k) : (Ou.exc c d st).bindI k = .exc c d st := rfl
theorem stays_same {blk : Bool} {X : Kx} {F : Hp} {os : List Addr} {H H' : Hp} {st : List Cn} (k : StOk X F os H st) (h : Stays blk F os H H') : Same F H' := by
  cases blk with
  | false => exact h
  | true =>
    intro a o e
    refine h a o (k.sub _ _ e) fun hm => ?_
    obtain ⟨u, _, f⟩ := k.live hm
    rw [e] at f; cases f
section
variable {X : Kx} {blk : Bool} {F H : Hp} {os : List Addr} {st : List Cn} {p q : Addr} {xs ys : List V} {ds es : List D}
theorem yd_at (r : Drs X F xs ds) {i : Nat} {H1 H2 : Hp} {x : V} (y : YAt xs i H1 x H2) : ∃ d, ds[i]? = some d ∧ Yd X F H1 x H2 d := by
  obtain ⟨e, hx⟩ := y
  obtain ⟨d, hd, rd⟩ := r.get hx
  exact ⟨d, hd, .inl ⟨e, rd⟩⟩
theorem itok_list (k : StOk X F os H st) (hp : F p = some (.lst xs)) (r : Drs X F xs ds) : ItOk X blk F os H (Itl X.K p) ds := by
  have w := @walk_list X.K p xs
  rw [r.len] at w
  exact ⟨_, _, w, fun H' h => SqL.of (stays_same k h _ _ hp), fun i H1 x H2 _ h y => yd_at r y⟩
theorem itok_bor (hp : H p = some (.lst xs)) (ho : p ∉ os) (r : Drs X F xs ds) : ItOk X true F os H (Itl X.K p) ds := by
  have w := @walk_list X.K p xs
  rw [r.len] at w
  exact ⟨_, _, w, fun H' h => SqL.of ((show ∀ a o, H a = some o → a ∉ os → H' a = some o from h) _ _ hp ho), fun i H1 x H2 _ h y => yd_at r y⟩
theorem itok_scr (k : StOk X F os H st) (hp : SqL X.K F p xs) (r : Drs X F xs ds) : ItOk X blk F os H (Itl X.K p) ds := by
  have w := @walk_list X.K p xs
  rw [r.len] at w
  exact ⟨_, _, w, fun H' h => Same.sqL (stays_same k h) hp, fun i H1 x H2 _ h y => yd_at r y⟩
theorem itok_tup (k : StOk X F os H st) (hp : SqT X.K F p xs) (r : Drs X F xs ds) : ItOk X blk F os H (Itt X.K p) ds := by
  have w := @walk_tup X.K p xs
  rw [r.len] at w
  exact ⟨_, _, w, fun H' h => Same.sqT (stays_same k h) hp, fun i H1 x H2 _ h y => yd_at r y⟩
def signs (x : Str) : List D := x.cps.toList.map fun c => .str ⟨#[c]⟩
theorem itok_str {x : Str} : ItOk X blk F os H (Its x) (signs x) := by
  have w := @walk_str x
  have e : (signs x).length = x.cps.size := by simp [signs]
  rw [← e] at w
  refine ⟨_, _, w, fun H' h => True.intro, fun i H1 v H2 _ h y => ?_⟩
  obtain ⟨e, c, hc, rfl⟩ := y
  refine ⟨.str ⟨#[c]⟩, ?_, .inl ⟨e, .str _⟩⟩
  unfold signs
  rw [List.getElem?_map]
  simp [hc]
def intsD (lo : Int) (n : Nat) : List D := (List.range n).map fun (i : Nat) => .int (lo + (i : Int))
theorem itok_range {lo : Int} {n : Nat} : ItOk X blk F os H (Itr lo n) (intsD lo n) := by
  have w := @walk_range lo n
  have e : (intsD lo n).length = n := by simp [intsD]
  have w2 : Walk (Itr lo n) (intsD lo n).length (fun _ => True) (YFn fun i => .int (lo + i)) := by rw [e]; exact w
  refine ⟨_, _, w2, fun H' h => True.intro, fun i H1 v H2 hi h y => ?_⟩
  obtain ⟨e1, rfl⟩ := y
  refine ⟨.int (lo + i), ?_, .inl ⟨e1, .int _⟩⟩
  rw [e] at hi
  unfold intsD
  rw [List.getElem?_map, List.getElem?_range hi]
  rfl
end

/-! ### the sources -/
section
variable {X : Cx} {ec : List (Addr × Str)} {W : WX} {blk : Bool} {tg e a b : Expr} {m ma mb : EM} {pos : Pos}
/-- a list, a tuple, a text -/
def seqI (blk : Bool) (m : EM) : IM := fun env st => (m env st).bindI fun v st1 => match v with
  | .dat (.list ds) => .ok ds st1
  | .dat (.tuple ds) => .ok ds st1
  | .dat (.str x) => .ok (signs x) st1
  | .fr (.lst ds) => .ok ds st1
  | .scr ds => .ok ds st1
  | .bor (.lst ds) => if blk = true then .ok ds st1 else .stk
  | _ => .stk
theorem PoI.bind {K : Kx} {σ : L2.St} {F H : Hp} {os : List Addr} {o : Ou} {k : Val → List Cn → Oi} {R : It → Hp → Prop} {Q1 : VK} (h : PoI K blk W σ F os H (o.bindI k) R)
    (hk : ∀ v st1 x F1 os1 H1, o = .ok v st1 → Ext F os H F1 os1 H1 → StOk K F1 os1 H1 st1 → VR K F1 os1 H1 x v → Frs H x v → PoI K blk W σ F os H (k v st1) R → Q1 x H1) : Po K W σ F os H o Q1 := by
  cases o with
  | stk => exact h
  | ok v st => exact fun x F1 os1 H1 e q r f => hk v st x F1 os1 H1 rfl e q r f h
  | exc c d st => exact h
theorem PoI.shift {K : Kx} {σ : L2.St} {F F' H H' : Hp} {os os' : List Addr} (e : Ext F os H F' os' H') {o : Oi} {R : It → Hp → Prop} (h : PoI K blk W σ F os H o R) : PoI K blk W σ F' os' H' o R := by
  cases o with
  | stk => exact h
  | ok v st => exact fun x F2 os2 H2 e2 k r => h x F2 os2 H2 (e.trans e2) k r
  | exc c d st => exact fun cls dd F2 os2 H2 e2 k r => h cls dd F2 os2 H2 (e.trans e2) k r
/-- what pyIter makes of a list, a tuple, a text -/
def iAny (K : PySem.W.Frag) (te : TE) : TI := fun σ H R => te σ H fun v H1 => (∃ a xs, v = .ref a ∧ SqL K H1 a xs ∧ R (Itl K a) H1) ∨ (∃ a xs, v = .ref a ∧ SqT K H1 a xs ∧ R (Itt K a) H1) ∨ ∃ x, v = .str x ∧ R (Its x) H1
theorem iter_val {pins : List (Addr × Obj)} {s1 : Shared} {σ : L2.St} {H1 : Hp} {R : It → Hp → Prop} {x : V} {v : Value} (I1 : Inv X pins σ H1 s1) (r1 : RelV x v)
    (q1 : (∃ a xs, x = .ref a ∧ SqL X.K H1 a xs ∧ R (Itl X.K a) H1) ∨ (∃ a xs, x = .ref a ∧ SqT X.K H1 a xs ∧ R (Itt X.K a) H1) ∨ ∃ z, x = .str z ∧ R (Its z) H1) :
    wpAny (model X.prog X.w) X.A (pyIter v) (PIE X pins σ tg R) X.xe s1 := by
  have fresh : ∀ b, b ∈ [s1.heap.objs.size] → FpOk X pins H1 b := fun b hb => by
    have eb : b = s1.heap.objs.size := by simpa using hb
    rw [eb]
    exact I1.fpOk (Nat.le_refl _) (I1.hok.fresh (Nat.le_refl _))
  rcases q1 with ⟨a, xs, ex, hq, q⟩ | ⟨a, xs, ex, hq, q⟩ | ⟨z, ex, q⟩
  · subst ex
    have ev : v = Value.ref a := r1
    subst ev
    obtain ⟨its, rv, p, hz⟩ := I1.list hq
    exact wpAny_pyIter_list p.isList ⟨_, [s1.heap.objs.size], _, _, H1, rfl, I1.kept (t' := s1.toks) fun b o h => Heap.get?_push_of_some _ h, turn_list a _, ⟨_, Heap.get?_push_size _ rfl, rfl, rfl⟩, fresh, q⟩
  · subst ex
    have ev : v = Value.ref a := r1
    subst ev
    obtain ⟨its, rv, p, hz⟩ := I1.tuple hq
    exact wpAny_pyIter_tuple (show s1.heap.IsTuple a its.toArray from p) ⟨_, [s1.heap.objs.size], _, _, H1, rfl, I1.kept (t' := s1.toks) fun b o h => Heap.get?_push_of_some _ h, turn_tuple a _, ⟨_, Heap.get?_push_size _ rfl, rfl, rfl⟩, fresh, q⟩
  · subst ex
    obtain ⟨t, ev⟩ := r1
    subst ev
    by_cases ha : z.cps.all (· < 128) = true
    · exact wpAny_pyIter_ascii ha (pi_one (tk := s1.toks) I1 _ (turn_str _ z t "str_ascii_iterator" (.inl rfl)) ⟨_, Heap.get?_push_size _ rfl, rfl, rfl⟩ q)
    · exact wpAny_pyIter_wide (by simpa using ha) (pi_one (tk := s1.toks) I1 _ (turn_str _ z t "str_iterator" (.inr rfl)) ⟨_, Heap.get?_push_size _ rfl, rfl, rfl⟩ q)
theorem pi_any0 {te : TE} (he : PE X e te) : PI X tg e (iAny X.K te) :=
  ⟨fun pins s σ H R I h => thn (he.run pins s σ H _ I h) fun v s1 ⟨x, H1, I1, r1, q1⟩ => iter_val I1 r1 q1⟩
theorem pi_any (he : PE X e (tM (kx X ec) W m)) : PI X tg e (tI (kx X ec) blk W (seqI blk m)) := (pi_any0 he).imp fun σ H R h => by
  obtain ⟨B, F, os, env, st, Rl, h⟩ := h
  refine ⟨B, F, os, env, st, Rl, PoI.bind h ?_⟩
  intro v st1 x F1 os1 H1 ev e1 k1 r1 f1 p1
  unfold seqI at p1
  split at p1
  · cases r1 with
    | dat r1 =>
      cases r1 with
      | lst a b => exact .inl ⟨_, _, rfl, SqL.of (k1.sub _ _ a), p1 _ _ _ _ e1 k1 (itok_list k1 a b)⟩
  · cases r1 with
    | dat r1 =>
      cases r1 with
      | tup a b => exact .inr (.inl ⟨_, _, rfl, Same.sqT k1.sub a, p1 _ _ _ _ e1 k1 (itok_tup k1 a b)⟩)
  · cases r1 with
    | dat r1 =>
      cases r1 with
      | str z => exact .inr (.inr ⟨_, rfl, p1 _ _ _ _ e1 k1 itok_str⟩)
  · cases r1 with
    | fr a b c r =>
      cases r with
      | lst r =>
        obtain ⟨e2, k2, r2⟩ := Pl.freeze e1 k1 c (f1 _ _ rfl rfl) a b (.lst r)
        cases r2 with
        | lst a2 b2 => exact .inl ⟨_, _, rfl, SqL.of c, p1 _ _ _ _ e2 k2 (itok_list k2 a2 b2)⟩
  · cases r1 with
    | scr a b => exact .inl ⟨_, _, rfl, Same.sqL k1.sub a, p1 _ _ _ _ e1 k1 (itok_scr k1 a b)⟩
  · split at p1
    · rename_i hb
      subst hb
      cases r1 with
      | bor a b c r =>
        cases r with
        | lst r => exact .inl ⟨_, _, rfl, SqL.of c, p1 _ _ _ _ e1 k1 (itok_bor c b r)⟩
    · exact False.elim p1
  · exact False.elim p1
/-- range(n), range(a, b) -/
def OuL.bindI (o : OuL) (k : List Val → List Cn → Oi) : Oi := match o with
  | .stk => .stk
  | .ok v st => k v st
  | .exc c d st => .exc c d st
@[simp] theorem OuL.bindI_stk (k) : OuL.stk.bindI k = .stk := rfl
@[simp] theorem OuL.bindI_ok (v st k) : (OuL.ok v st).bindI k = k v st := rfl
@[simp] theorem OuL.bindI_exc (c d st k) : (OuL.exc c d st).bindI k = .exc c d st := rfl
theorem PoI.bindL {K : Kx} {σ : L2.St} {F H : Hp} {os : List Addr} {o : OuL} {k : List Val → List Cn → Oi} {R : It → Hp → Prop} {Q1 : List V → Hp → Prop} (h : PoI K blk W σ F os H (o.bindI k) R)
    (hk : ∀ v st1 x F1 os1 H1, o = .ok v st1 → Ext F os H F1 os1 H1 → StOk K F1 os1 H1 st1 → VRs K F1 os1 H1 x v → PoI K blk W σ F os H (k v st1) R → Q1 x H1) : PoL K W σ F os H o Q1 := by
  cases o with
  | stk => exact h
  | ok v st => exact fun x F1 os1 H1 e q r f => hk v st x F1 os1 H1 rfl e q r h
  | exc c d st => exact h
def rng1I (r : AM) : IM := fun env st => (r env st).bindI fun vs st1 => match vs with
  | [.dat (.int j)] => if -(2 ^ 62) ≤ j ∧ j < 2 ^ 62 then .ok (intsD 0 j.toNat) st1 else .stk
  | _ => .stk
def rng2I (r : AM) : IM := fun env st => (r env st).bindI fun vs st1 => match vs with
  | [.dat (.int i), .dat (.int j)] => if -(2 ^ 62) ≤ i ∧ i < 2 ^ 62 ∧ -(2 ^ 62) ≤ j ∧ j < 2 ^ 62 then .ok (intsD i (j - i).toNat) st1 else .stk
  | _ => .stk
theorem pi_rg1 {r : AM} {p : Pos} (hg : Gl X "range") (hm : X.mg "range" = none) (ha : PA X [a] (tA (kx X ec) W r)) (hs : starEach [a] X.env = [(false, eval a X.env)] := by rfl) : PI X tg (.Call (.Name "range" p) [a] [] pos) (tI (kx X ec) blk W (rng1I r)) :=
  (pi_range1 hg hm ha hs).imp fun σ H R h => by
    obtain ⟨B, F, os, env, st, Rl, h⟩ := h
    refine ⟨B, F, os, env, st, Rl, PoI.bindL h ?_⟩
    intro v st1 x F1 os1 H1 ev e1 k1 r1 p1
    split at p1
    · rename_i j
      split at p1
      · rename_i hb
        cases r1 with
        | cons a b =>
          cases b
          exact ⟨j, by rw [a.int], hb.1, hb.2, p1 _ _ _ _ e1 k1 itok_range⟩
      · exact False.elim p1
    · exact False.elim p1
theorem pi_rg2 {r : AM} {p : Pos} (hg : Gl X "range") (hm : X.mg "range" = none) (ha : PA X [a, b] (tA (kx X ec) W r)) (hs : starEach [a, b] X.env = [(false, eval a X.env), (false, eval b X.env)] := by rfl) (hs2 : starEach [b] X.env = [(false, eval b X.env)] := by rfl) : PI X tg (.Call (.Name "range" p) [a, b] [] pos) (tI (kx X ec) blk W (rng2I r)) :=
  (pi_range2 hg hm ha hs hs2).imp fun σ H R h => by
    obtain ⟨B, F, os, env, st, Rl, h⟩ := h
    refine ⟨B, F, os, env, st, Rl, PoI.bindL h ?_⟩
    intro v st1 x F1 os1 H1 ev e1 k1 r1 p1
    split at p1
    · rename_i i j
      split at p1
      · rename_i hb
        cases r1 with
        | cons a b =>
          cases b with
          | cons c d =>
            cases d
            exact ⟨i, j, by rw [a.int, c.int], hb, p1 _ _ _ _ e1 k1 itok_range⟩
      · exact False.elim p1
    · exact False.elim p1
end

/-! ### targets -/
inductive Tg where
  | nm (i : Nat)
  | tp (is : List Nat)
def bindAll : List Nat → List D → Env → Option Env
  | [], [], env => some env
  | i :: is, d :: ds, env => bindAll is ds (env.set i (some (.dat d)))
  | _, _, _ => none
def bindT : Tg → D → Env → Option Env
  | .nm i, d, env => some (env.set i (some (.dat d)))
  | .tp is, .tuple ds, env => bindAll is ds env
  | _, _, _ => none
/-- a target serves what bindT tells -/
def TgOk (X : Cx) (ec : List (Addr × Str)) (tg : Tg) (g : TG) : Prop := ∀ B F os σ H env st x d env' Q, Rel (kx X ec) B F os σ H env st → Dr (kx X ec) F x d → bindT tg d env = some env' →
  (∀ σ', Rel (kx X ec) B F os σ' H env' st → (∀ (i : Nat), (match tg with | .nm j => i ≠ j | .tp is => i ∉ is) → σ'[i]? = σ[i]?) → Q σ' H) → g x σ H Q
section
variable {X : Cx} {ec : List (Addr × Str)} {W : WX} {blk : Bool} {tg e a b : Expr} {m ma mb : EM} {pos : Pos}
theorem tg_nm {i : Nat} : TgOk X ec (.nm i) (gName i) := by
  intro B F os σ H env st x d env' Q R r h q
  cases h
  exact q _ (R.set (.dat r) rfl fun _ _ h _ => nomatch h) fun j hj => List.getElem?_set_ne (Ne.symm hj)
def gNames : List Nat → TGs
  | [] => gNil
  | i :: is => gCons (gName i) (gNames is)
theorem names_ok : ∀ (is : List Nat) {B F os σ H env st} {xs : List V} {ds : List D} {env' : Env} {Q : L2.St → Hp → Prop}, Rel (kx X ec) B F os σ H env st → Drs (kx X ec) F xs ds → bindAll is ds env = some env' →
    (∀ σ', Rel (kx X ec) B F os σ' H env' st → (∀ (i : Nat), i ∉ is → σ'[i]? = σ[i]?) → Q σ' H) → gNames is xs σ H Q
  | [], _, _, _, _, _, _, _, _, ds, _, _, R, r, h, q => by
    cases ds with
    | nil =>
      cases r
      cases h
      exact ⟨rfl, q _ R fun _ _ => rfl⟩
    | cons d ds => cases h
  | i :: is, _, _, _, _, _, _, _, _, ds, _, _, R, r, h, q => by
    cases ds with
    | nil => cases h
    | cons d ds =>
      cases r with
      | cons r rs =>
        refine ⟨_, _, rfl, ?_⟩
        refine names_ok is (R.set (.dat r) rfl fun _ _ h _ => nomatch h) rs h fun σ' R' hk => q σ' R' fun j hj => ?_
        have h1 : j ≠ i := fun z => hj (by rw [z]; exact List.mem_cons_self)
        have h2 : j ∉ is := fun z => hj (List.mem_cons_of_mem _ z)
        rw [hk j h2, List.getElem?_set_ne (Ne.symm h1)]
theorem tg_tp {is : List Nat} : TgOk X ec (.tp is) (gTup X.K is.length (gNames is)) := by
  intro B F os σ H env st x d env' Q R r h q
  cases d with
  | tuple ds =>
    cases r with
    | tup a b =>
      have hl : is.length = ds.length := by
        have aux : ∀ (is : List Nat) (ds : List D) (env env' : Env), bindAll is ds env = some env' → is.length = ds.length := by
          intro is
          induction is with
          | nil => intro ds env env' h; cases ds with | nil => rfl | cons d ds => cases h
          | cons i is ih => intro ds env env' h; cases ds with | nil => cases h | cons d ds => simp [ih _ _ _ h]
        exact aux _ _ _ _ h
      exact ⟨_, _, rfl, Same.sqT R.ok.sub a, by rw [b.len, hl], names_ok is R b h q⟩
  | _ => cases h

/-! ### for -/
def forM (tg : Tg) (mt : SM) : List D → SM
  | [] => fun env st => .nx env st
  | d :: ds => fun env st => match bindT tg d env with
    | none => .stk
    | some env1 => match mt env1 st with
      | .nx env' st' => forM tg mt ds env' st'
      | .cnt env' st' => forM tg mt ds env' st'
      | .brk env' st' => .nx env' st'
      | o => o
def frM (im : IM) (tg : Tg) (mt : SM) : SM := fun env st => match im env st with
  | .stk => .stk
  | .exc c d st1 => .exc c d env st1
  | .ok items st1 => forM tg mt items env st1
/-- what a turn gives is data of a later heap -/
theorem yd_ok {K : Kx} {B : Bs} {F1 F : Hp} {os : List Addr} {σ : L2.St} {H : Hp} {env : Env} {st : List Cn} {x : V} {H' : Hp} {d : D} (R : Rel K B F os σ H env st) (s : Same F1 F) (y : Yd K F1 H x H' d) :
    ∃ F', Ext F os H F' os H' ∧ Rel K B F' os σ H' env st ∧ Dr K F' x d := by
  rcases y with ⟨e, r⟩ | ⟨T, y, z, dy, dz, ex, hT, e, ed, ry, rz⟩
  · subst e
    exact ⟨F, Ext.refl _ _ _, R, Dr.mono s _ _ r⟩
  · subst ex e ed
    have e := Ext.newF (o := .tup [y, z]) R.ok hT
    refine ⟨_, e, R.ext e (R.ok.newF hT), .tup (SqT.of upd_same) (.cons ?_ (.cons ?_ .nil))⟩
    · exact Dr.mono (s.trans e.fz) _ _ ry
    · exact Dr.mono (s.trans e.fz) _ _ rz
theorem Rel.repin {K : Kx} {B : Bs} {P F : Hp} {os : List Addr} {σ : L2.St} {H : Hp} {env : Env} {st : List Cn} (R : Rel K B F os σ H env st) (s : Same P F) : Rel K ⟨B.F, B.os, B.H, P⟩ F os σ H env st :=
  ⟨R.ok, R.len, R.slv, R.own, R.ownB, R.borB, R.bs, s⟩
theorem PoS.repin {K : Kx} {B : Bs} {P : Hp} {o : Os} {E : Ends} (hP : Same B.P P) (h : PoS K W B o E) : PoS K W ⟨B.F, B.os, B.H, P⟩ o E := by
  have back : ∀ {F os σ H env st}, Rel K ⟨B.F, B.os, B.H, P⟩ F os σ H env st → Rel K B F os σ H env st := fun R => ⟨R.ok, R.len, R.slv, R.own, R.ownB, R.borB, R.bs, hP.trans R.pin⟩
  cases o with
  | stk => exact h
  | nx env st => exact fun F os σ H R => h F os σ H (back R)
  | brk env st => exact fun F os σ H R => h F os σ H (back R)
  | cnt env st => exact fun F os σ H R => h F os σ H (back R)
  | ret v st => exact h
  | exc c d env st => exact fun cls dd F os σ H R r => h cls dd F os σ H (back R) r
theorem for_ok {im : IM} {tgt : Tg} {g : TG} {mt : SM} (hg : TgOk X ec tgt g) {E : Ends} {σ : L2.St} {H : Hp} (h : tS (kx X ec) W (frM im tgt mt) E σ H) : tFor (tI (kx X ec) false W im) g (tS (kx X ec) W mt) E σ H := by
  obtain ⟨B, F, os, env, st, R, h⟩ := h
  refine ⟨B, F, os, env, st, R, ?_⟩
  unfold frM at h
  cases hi : im env st with
  | stk => rw [hi] at h; exact h
  | exc c d st1 =>
    rw [hi] at h
    exact fun cls dd F1 os1 H1 e k r => h cls dd F1 os1 σ H1 (R.ext e k) r
  | ok items st1 =>
    rw [hi] at h
    intro J F1 os1 H1 e1 k1 it
    obtain ⟨G, Y, w, hG, hY⟩ := it
    have R1 := R.ext e1 k1
    refine for_it w (fun i σ H => ∃ F os env st, Rel (kx X ec) ⟨B.F, B.os, B.H, F1⟩ F os σ H env st ∧ PoS (kx X ec) W ⟨B.F, B.os, B.H, F1⟩ (forM tgt mt (items.drop i) env st) E) ⟨F1, os1, env, st1, R1.repin (L2.Same.refl _), PoS.repin R1.pin h⟩ ?_ ?_ ?_
    · rintro i σ H _ ⟨F, os, env, st, R, p⟩
      exact hG H (R.pin.trans R.ok.sub)
    · rintro i x σ H H' hlt ⟨F, os, env, st, R, p⟩ y
      obtain ⟨d, hd, yd⟩ := hY i H x H' hlt (R.pin.trans R.ok.sub) y
      obtain ⟨F2, e2, R2, rd⟩ := yd_ok R R.pin yd
      have hdrop : items.drop i = d :: items.drop (i + 1) := by
        obtain ⟨hl, he⟩ := List.getElem?_eq_some_iff.mp hd
        rw [← he]
        exact List.drop_eq_getElem_cons hl
      rw [hdrop] at p
      unfold forM at p
      cases hb : bindT tgt d env with
      | none => rw [hb] at p; exact False.elim p
      | some env1 =>
        rw [hb] at p
        dsimp only at p
        refine hg _ F2 os σ H' env st x d env1 _ R2 rd hb fun σ' R3 _ => ⟨_, F2, os, env1, st, R3, ?_⟩
        cases hm : mt env1 st <;> rw [hm] at p
        case nx env' st' => exact fun F4 os4 σ4 H4 R4 => ⟨F4, os4, env', st', R4, p⟩
        case cnt env' st' => exact fun F4 os4 σ4 H4 R4 => ⟨F4, os4, env', st', R4, p⟩
        case brk env' st' => exact p
        all_goals exact p
    · rintro σ H ⟨F, os, env, st, R, p⟩
      rw [List.drop_length] at p
      exact p F os σ H R
theorem ps_f {iter te : Expr} {im : IM} {tgt : Tg} {g : TG} {mt : SM} {body : List Stmt} (hp : PassesOwn (model X.prog X.w) X.A X.env X.xe) (hc : X.calm = true) (hi : PI X te iter (tI (kx X ec) false W im)) (hgp : PG X te g) (hg : TgOk X ec tgt g)
    (hb : PSs X body (tS (kx X ec) W mt)) (hs : ∀ x, foldedSetIterable iter X.env x = pure x := by intro _; rfl) : PS X (.For te iter body [] pos) (tS (kx X ec) W (frM im tgt mt)) := (ps_for hp hc hi hgp hb hs).imp fun _ _ _ => for_ok hg

/-! ### list comprehensions -/
def wipeE (env : Env) : List Nat → Env
  | [] => env
  | v :: vs => (wipeE env vs).set v none
/-- no error may leave a comprehension -/
abbrev W0 : WX := fun _ _ _ _ => False
def lcM (tg : Tg) (mc me : EM) : List D → List D → EM
  | [], acc => fun _ st => .ok (.fr (.lst acc)) st
  | d :: ds, acc => fun env st => match bindT tg d env with
    | none => .stk
    | some env1 => match mc env1 st with
      | .ok (.dat (.bool true)) st1 => match me env1 st1 with
        | .ok v st2 => match asDat v with
          | some z => if acc.length < sizeLine then lcM tg mc me ds (acc ++ [z]) env st2 else .stk
          | none => .stk
        | _ => .stk
      | .ok (.dat (.bool false)) st1 => lcM tg mc me ds acc env st1
      | _ => .stk
def compM (im : IM) (own : List Nat) (tg : Tg) (mc me : EM) : EM := fun env st => match im env st with
  | .stk => .stk
  | .exc c d st1 => .exc c d st1
  | .ok items st1 => lcM tg mc me items [] (wipeE env own) st1
def yesM : EM := fun _ st => .ok (.dat (.bool true)) st
theorem tYes_ok {K : Kx} {σ : L2.St} {H : Hp} {Q : Bool → Hp → Prop} (h : tT K W0 yesM σ H Q) : tYes σ H Q := by
  obtain ⟨B, F, os, env, st, R, b, e, q⟩ := h
  cases e
  exact q F os H (Ext.refl _ _ _) R.ok
theorem _root_.L2.PTs.imp {X : Cx} {e : List Expr} {t t' : TT} (h : PTs X e t) (i : ∀ σ H Q, t' σ H Q → t σ H Q) : PTs X e t' := ⟨fun pins s σ H Q I q => h.run pins s σ H Q I (i _ _ _ q)⟩
theorem pts_n : PTs X [] (tT (kx X ec) W0 yesM) := pts_nil.imp fun _ _ _ => tYes_ok
theorem unset_ne {α : Type} {l : List (Option α)} {v i : Nat} {x : α} (h : (l.set v none)[i]? = some (some x)) : v ≠ i := fun e => by
  subst e
  by_cases hl : v < l.length
  · rw [List.getElem?_set_self hl] at h; cases h
  · rw [List.getElem?_eq_none (by simpa using hl)] at h; cases h
theorem Rel.unset {K : Kx} {B : Bs} {F : Hp} {os : List Addr} {σ : L2.St} {H : Hp} {env : Env} {st : List Cn} (R : Rel K B F os σ H env st) (v : Nat) : Rel K B F os (σ.set v none) H (env.set v none) st := by
  refine ⟨R.ok, by simp [R.len], fun i x h => ?_, fun i j c c' p ne h1 h2 h3 h4 => ?_, fun i c p h1 h3 => ?_, fun i c p h1 h3 => ?_, R.bs, R.pin⟩
  · have n := unset_ne h
    rw [List.getElem?_set_ne n] at h ⊢
    exact R.slv i x h
  · have n1 := unset_ne h1
    have n2 := unset_ne h2
    rw [List.getElem?_set_ne n1] at h1 h3
    rw [List.getElem?_set_ne n2] at h2 h4
    exact R.own i j c c' p ne h1 h2 h3 h4
  · have n1 := unset_ne h1
    rw [List.getElem?_set_ne n1] at h1 h3
    exact R.ownB i c p h1 h3
  · have n1 := unset_ne h1
    rw [List.getElem?_set_ne n1] at h1 h3
    exact R.borB i c p h1 h3
theorem Rel.wipe {K : Kx} {B : Bs} {F : Hp} {os : List Addr} {σ : L2.St} {H : Hp} {env : Env} {st : List Cn} (R : Rel K B F os σ H env st) : ∀ vs : List Nat, Rel K B F os (L2.wipe σ vs) H (wipeE env vs) st
  | [] => R
  | v :: vs => (Rel.wipe R vs).unset v
theorem wipe_get {σ : L2.St} {i : Nat} : ∀ {vs : List Nat}, i ∈ vs → i < σ.length → (L2.wipe σ vs)[i]? = some none
  | v :: vs, hm, hl => by
    unfold L2.wipe
    by_cases e : v = i
    · subst e
      rw [List.getElem?_set_self (by rw [wipe_length]; exact hl)]
    · rw [List.getElem?_set_ne e]
      rcases List.mem_cons.mp hm with q | q
      · exact absurd q.symm e
      · exact wipe_get q hl
theorem wipe_other {σ : L2.St} {i : Nat} : ∀ {vs : List Nat}, i ∉ vs → (L2.wipe σ vs)[i]? = σ[i]?
  | [], _ => rfl
  | v :: vs, h => by
    unfold L2.wipe
    rw [List.getElem?_set_ne (fun e => h (by rw [e]; exact List.mem_cons_self))]
    exact wipe_other fun q => h (List.mem_cons_of_mem _ q)
theorem wipe_same {σ σ2 : L2.St} {vs : List Nat} (hl : σ2.length = σ.length) (h : ∀ i, i ∉ vs → σ2[i]? = (L2.wipe σ vs)[i]?) : L2.wipe σ2 vs = L2.wipe σ vs := by
  apply List.ext_getElem?
  intro i
  by_cases e : i ∈ vs
  · by_cases q : i < σ.length
    · rw [wipe_get e (by rw [hl]; exact q), wipe_get e q]
    · rw [List.getElem?_eq_none (by rw [wipe_length, hl]; omega), List.getElem?_eq_none (by rw [wipe_length]; omega)]
  · rw [wipe_other e, h i e]
/-- a new object that no name holds is written -/
theorem Rel.writeN {K : Kx} {B : Bs} {F F0 : Hp} {os os0 : List Addr} {σ : L2.St} {H H0 : Hp} {env : Env} {st st0 : List Cn} {p : Addr} {o : HO} (R0 : Rel K B F0 os0 σ H0 env st0) (h0 : H0 p = none) (R : Rel K B F os σ H env st) (hf : F p = none) (ho : p ∉ os) : Rel K B F os σ (upd H p o) env st := by
  have hB := R0.bs.nn h0
  refine ⟨⟨fun a u h => ?_, R.ok.len, fun n a c h1 h2 => ?_, R.ok.nd⟩, R.len, fun i x h => ?_, R.own, R.ownB, R.borB, ⟨R.bs.fz, fun a u h hn => ?_, R.bs.new, R.bs.os, fun a h => upd_ne_none (R.bs.dom a h)⟩, R.pin⟩
  · rw [upd_ne (fun z => by rw [z, hf] at h; cases h)]; exact R.ok.sub _ _ h
  · obtain ⟨f, u, q, r⟩ := R.ok.stv n a c h1 h2
    exact ⟨f, u, by rw [upd_ne (fun z => ho (by rw [← z]; exact List.mem_of_getElem? h1))]; exact q, r⟩
  · obtain ⟨y, a, b⟩ := R.slv i x h
    obtain ⟨y0, a0, b0⟩ := R0.slv i x h
    rw [a] at a0
    cases a0
    refine ⟨y, a, ?_⟩
    cases b with
    | dat r => exact .dat r
    | fr f1 o1 h1 r1 =>
      cases b0 with
      | fr _ _ h2 _ => exact .fr f1 o1 (by rw [upd_ne (fun z => by rw [z, h0] at h2; cases h2)]; exact h1) r1
    | bor f1 o1 h1 r1 =>
      cases b0 with
      | bor _ _ h2 _ => exact .bor f1 o1 (by rw [upd_ne (fun z => by rw [z, h0] at h2; cases h2)]; exact h1) r1
    | obj r => exact .obj r
    | scr r s => exact .scr r s
  · rw [upd_ne (fun z => by rw [z, hB] at h; cases h)]; exact R.bs.keep _ _ h hn
def tgIx : Tg → List Nat
  | .nm i => [i]
  | .tp is => is
theorem comp_ok {im : IM} {tgt : Tg} {g : TG} {mc me : EM} {own : List Nat} (hg : TgOk X ec tgt g) (hin : ∀ i ∈ tgIx tgt, i ∈ own) {σ : L2.St} {H : Hp} {Q : VK} (h : tM (kx X ec) W (compM im own tgt mc me) σ H Q) :
    tLc (tI (kx X ec) true W im) g (tT (kx X ec) W0 mc) (tM (kx X ec) W0 me) own σ H Q := by
  obtain ⟨B, F0, os0, env, st0, R0, h⟩ := h
  refine ⟨B, F0, os0, env, st0, R0, ?_⟩
  unfold compM at h
  cases hi : im env st0 with
  | stk => rw [hi] at h; exact h
  | exc c d st1 => rw [hi] at h; exact h
  | ok items st1 =>
    rw [hi] at h
    intro J F1 os1 H1 e1 k1 it p hp
    obtain ⟨G, Y, w, hG, hY⟩ := it
    have R1 := (R0.ext e1 k1).wipe own
    have e2 := Ext.newO (o := .lst []) k1 hp
    have k2 := k1.newO (o := .lst []) hp
    refine lc_it w (fun i H2 => ∃ F os st acc xs, Rel (kx X ec) B F os (L2.wipe σ own) H2 (wipeE env own) st ∧ Ext F1 os1 H1 F os H2 ∧ H2 p = some (.lst xs) ∧ F p = none ∧ p ∉ os ∧ Drs (kx X ec) F xs acc ∧
      Po (kx X ec) W σ F0 os0 H (lcM tgt mc me (items.drop i) acc (wipeE env own) st) Q) ⟨F1, os1, st1, [], [], R1.ext e2 k2, e2, upd_same, (k1.free hp).2, (k1.free hp).1, .nil, h⟩ ?_ ?_ ?_
    · rintro i H2 _ ⟨F, os, st, acc, xs, R, e, _⟩
      exact hG H2 fun a o h1 h2 => e.keep a o h1 h2
    · rintro i x H2 H3 hlt ⟨F, os, st, acc, xs, R, e, hpx, hpF, hpo, rx, po⟩ y
      obtain ⟨d, hd, yd⟩ := hY i H2 x H3 hlt (fun a o h1 h2 => e.keep a o h1 h2) y
      obtain ⟨F3, e3, R3, rd⟩ := yd_ok R e.fz yd
      have hdrop : items.drop i = d :: items.drop (i + 1) := by
        obtain ⟨hl, he⟩ := List.getElem?_eq_some_iff.mp hd
        rw [← he]
        exact List.drop_eq_getElem_cons hl
      rw [hdrop] at po
      unfold lcM at po
      cases hb : bindT tgt d (wipeE env own) with
      | none => rw [hb] at po; exact False.elim po
      | some env1 =>
        rw [hb] at po
        dsimp only at po
        refine hg B F3 os (L2.wipe σ own) H3 (wipeE env own) st x d env1 _ R3 rd hb fun σ2 R4 hk => ⟨?_, ?_⟩
        · refine wipe_same ?_ fun i hi => hk i ?_
          · have l1 := R4.len
            have l2 : env1.length = (wipeE env own).length := by
              have aux : ∀ (is : List Nat) (ds : List D) (env env' : Env), bindAll is ds env = some env' → env'.length = env.length := by
                intro is
                induction is with
                | nil => intro ds env env' h; cases ds with | nil => cases h; rfl | cons d ds => cases h
                | cons i is ih => intro ds env env' h; cases ds with | nil => cases h | cons d ds => simpa using ih _ _ _ h
              cases tgt with
              | nm i => cases hb; simp
              | tp is => cases d with
                | tuple ds => exact aux _ _ _ _ hb
                | _ => cases hb
            have l3 := R3.len
            rw [wipe_length] at l3
            omega
          · cases tgt with
            | nm j => exact fun z => hi (hin _ (by rw [z]; exact List.mem_cons_self))
            | tp is => exact fun z => hi (hin _ z)
        · refine ⟨B, F3, os, env1, st, R4, ?_⟩
          cases hmc : mc env1 st with
          | stk => rw [hmc] at po; exact False.elim po
          | exc c d st2 => rw [hmc] at po; exact False.elim po
          | ok v st2 =>
            rw [hmc] at po
            split at po
            · rename_i st3 hv
              cases hv
              refine ⟨true, rfl, fun F5 os5 H5 e5 k5 => iteT ⟨B, F5, os5, env1, _, R4.ext e5 k5, Po.dat ?_⟩⟩
              cases hme : me env1 st2 with
              | stk => rw [hme] at po; exact False.elim po
              | exc c d st4 => rw [hme] at po; exact False.elim po
              | ok u st4 =>
                rw [hme] at po
                dsimp only [Ou.bind] at po ⊢
                cases hz : asDat u with
                | none => rw [hz] at po; exact False.elim po
                | some z =>
                  rw [hz] at po
                  dsimp only at po
                  split at po
                  · rename_i hlen
                    intro y F6 os6 H6 e6 k6 r6 f6
                    have ee := (e3.trans e5).trans e6
                    have hp6 := ee.keep _ _ hpx hpo
                    have ef := ee.fnone hpF hpx
                    have eo := ee.nos hpo hpx
                    have E6 := e.trans ee
                    have R6 : Rel (kx X ec) B F6 os6 (L2.wipe σ own) H6 (wipeE env own) st4 := R.ext ee k6
                    refine ⟨xs, hp6, by rw [rx.len]; exact hlen, F6, os6, st4, acc ++ [z], xs ++ [y], R1.writeN hp R6 ef eo, ⟨E6.fz, fun a o h1 h2 => ?_, E6.new, E6.os, fun a h => upd_ne_none (E6.dom a h)⟩, upd_same, ef, eo, ?_, po⟩
                    · rw [upd_ne (ne_of_none h1 hp)]; exact E6.keep a o h1 h2
                    · cases r6 with
                      | dat r6 => exact (Drs.mono ee.fz _ _ rx).append (.cons r6 .nil)
                  · exact False.elim po
            · rename_i hv
              cases hv
              refine ⟨false, rfl, fun F5 os5 H5 e5 k5 => iteF ?_⟩
              have ee := e3.trans e5
              exact ⟨F5, os5, _, acc, xs, R.ext ee k5, e.trans ee, ee.keep _ _ hpx hpo, ee.fnone hpF hpx, ee.nos hpo hpx, Drs.mono ee.fz _ _ rx, po⟩
            · exact False.elim po
    · rintro H2 ⟨F, os, st, acc, xs, R, e, hpx, hpF, hpo, rx, po⟩
      rw [List.drop_length] at po
      exact po (.ref p) F os H2 (e1.trans e) R.ok (.fr hpF hpo hpx (.lst rx)) (Frs.new (e1.nn hp))
theorem pe_comp {elt te iter : Expr} {ifs : List Expr} {scope : Scope} {own : List (Str × Nat)} {im : IM} {tgt : Tg} {g : TG} {mc me : EM} (hc : X.calm = true) (hN : X.N.Nodup) (hi : PI X te iter (tI (kx X ec) true W im)) (ok : BlkOk X.N X.env.scope scope own)
    (hgp : ∀ (s : Shared) (H : Hp) (C : Addr) (cl : List (Str × Addr)) (fp : List Addr), PG (X.blk s H scope (compEnvC scope cl C X.env) fp) te g) (ht : ∀ (s : Shared) (H : Hp) (C : Addr) (cl : List (Str × Addr)) (fp : List Addr), PTs (X.blk s H scope (compEnvC scope cl C X.env) fp) ifs (tT (kx X ec) W0 mc))
    (he : ∀ (s : Shared) (H : Hp) (C : Addr) (cl : List (Str × Addr)) (fp : List Addr), PE (X.blk s H scope (compEnvC scope cl C X.env) fp) elt (tM (kx X ec) W0 me)) (hg : TgOk X ec tgt g) (hin : ∀ i ∈ tgIx tgt, i ∈ own.map (·.2)) (hs : ∀ x, foldedSetIterable iter X.env x = pure x := by intro _; rfl) :
    PE X (.ListComp elt [⟨te, iter, ifs, 0⟩] scope pos) (tM (kx X ec) W (compM im (own.map (·.2)) tgt mc me)) := (pe_lc hc hN hi ok hgp ht he hs).imp fun _ _ _ => comp_ok hg hin
/-- x = [..] -/
theorem ps_comp {i : Nat} {y : Str} {py : Pos} {elt te iter : Expr} {ifs : List Expr} {scope : Scope} {own : List (Str × Nat)} {spos : Pos} {im : IM} {tgt : Tg} {g : TG} {mc me : EM} (hc : X.calm = true) (hN : X.N.Nodup) (hy : X.N[i]? = some y) (hyl : X.env.scope.names.lookup y = some .local)
    (hsw : swapsWith (.ListComp elt [⟨te, iter, ifs, 0⟩] scope pos) (some (.Name y py)) spos.line X.env = pure true) (hi : PI X te iter (tI (kx X ec) true W im)) (ok : BlkOk X.N X.env.scope scope own)
    (hgp : ∀ (s : Shared) (H : Hp) (C : Addr) (cl : List (Str × Addr)) (fp : List Addr), PG (X.blk s H scope (compEnvC scope cl C X.env) fp) te g) (ht : ∀ (s : Shared) (H : Hp) (C : Addr) (cl : List (Str × Addr)) (fp : List Addr), PTs (X.blk s H scope (compEnvC scope cl C X.env) fp) ifs (tT (kx X ec) W0 mc))
    (he : ∀ (s : Shared) (H : Hp) (C : Addr) (cl : List (Str × Addr)) (fp : List Addr), PE (X.blk s H scope (compEnvC scope cl C X.env) fp) elt (tM (kx X ec) W0 me)) (hg : TgOk X ec tgt g) (hin : ∀ i ∈ tgIx tgt, i ∈ own.map (·.2)) (hs : ∀ x, foldedSetIterable iter X.env x = pure x := by intro _; rfl) :
    PS X (.Assign [.Name y py] (.ListComp elt [⟨te, iter, ifs, 0⟩] scope pos) spos) (tS (kx X ec) W (setM i (compM im (own.map (·.2)) tgt mc me))) := (ps_setLc hc hN hy hyl hsw hi ok hgp ht he hs).imp fun E σ H h => by
  obtain ⟨B, F, os, env, st, R, h⟩ := h
  have h2 : tAsg (tM (kx X ec) W (compM im (own.map (·.2)) tgt mc me)) (gName i) E σ H := set_ok ⟨B, F, os, env, st, R, h⟩
  exact comp_ok hg hin h2
end
end Pl

set_option Elab.async false
set_option linter.all false
set_option maxRecDepth 100000
set_option maxHeartbeats 4000000
namespace Pl
open PySem PySem.Spec PyProof.Rows L2

/-! ### the promise of a def, told where no repr is under way (the guards are known to be none) -/
structure FnG (P : Program) (w : World) (K : PySem.W.Frag) (mg : Str → Option Value) (base : Heap) (CX : CXT) (k : Nat) (f : Addr) (fd : FuncData) (ps : List Str) (sp : Sp) : Prop where
  len : ∀ {vs H Q E}, sp vs H Q E → vs.length = ps.length
  run : ∀ {A : Around} {outer : List PySem.Env} {s : Shared} {H : Hp} {args : Args} {us : List Value} {vs : List V} {Q : VK} {E : XK}, Room k A → A.guards = some [] → Env0 P w K mg base A outer s H →
    BindsTo s fd args (ps.zip us) → Vals vs us → sp vs H Q E → codeAny (model P w) A (.call (.ref f) args) (CR CX outer P w H s Q E) s
section
variable {P : Program} {w : World} {K : PySem.W.Frag} {mg : Str → Option Value} {base : Heap} {CX : CXT} {f : Addr} {fd : FuncData} {ps : List Str} {sp : Sp}
theorem FnG.up {j k : Nat} (G : FnG P w K mg base CX j f fd ps sp) (h : j ≤ k) : FnG P w K mg base CX k f fd ps sp := ⟨G.len, fun hr => G.run (hr.mono h)⟩
/-- by the body: the frame is laid, the body's reading is run, its end is read -/
theorem FnG.of {x qual : Str} {st : Stmt} {N : List Str} {k : Nat} (F : Fun K x qual st f fd) (S : FnScope N ps (defScope st)) (len : ∀ {vs H Q E}, sp vs H Q E → vs.length = ps.length)
    (hbody : ∀ (cdv : Value) (A : Around) (outer : List PySem.Env) (s : Shared) (H : Hp) (vs : List V) (Q : VK) (E : XK), Room k (A.deeper (envOfC qual (defScope st) s.heap.objs.size f cdv)) → A.guards = some [] → sp vs H Q E →
      ∃ t, PSs (cxOf CX P w K mg base N qual (defScope st) f cdv A outer s H E) (defBody st) t ∧ t { nx := fun _ H' => Q .non H', rt := Q } (L2.start N vs) H) : FnG P w K mg base CX (k + 1) f fd ps sp := by
  obtain ⟨oc, od, kV, doc, pm, an, cdv, ct, osl, efd, lk, hcd⟩ := F.ex
  subst efd
  refine ⟨len, ?_⟩
  intro A outer s H args us vs Q E hr hg e0 hb r hsp
  have up : ∀ b o, base.get? b = some o → s.heap.get? b = some o := fun b o z => (e0.bs b o z).1
  have inK := e0.mod.kin.keeps up
  have kinds : ∀ y ∈ ps.zip us, (defScope st).names.lookup y.1 = some .local ∨ ((defScope st).names.lookup y.1 = some .cell ∧ ((cellsFrom (s.heap.objs.size + 1) (defScope st).names []).lookup y.1).isSome = true) := by
    rintro ⟨n, v⟩ hy
    cases S.par n (List.of_mem_zip hy).1 with
    | inl q => exact Or.inl q
    | inr q => exact Or.inr ⟨q, PySem.W.cellsFrom_some _ _ _ (Or.inl q)⟩
  obtain ⟨t, ht, hq⟩ := hbody cdv A outer s H vs Q E (hr.deeper _) hg hsp
  refine codeAny_call_function hr.depth (inK _ _ lk) rfl S.co S.gen rfl (PySem.W.codeRec_of inK hcd) (hb _ _ _ _ (wpAny_newFunctionEnv_cells S.kind kinds ?_))
  intro env he s1 x
  subst he
  refine ⟨(e0.mod.nolimit.keeps up).keeps x.toInCall.keep, codeAny_func (wpAny_mono (ht.run [] s1 _ H _ (inv_start S hr.hd e0 (len hsp) r x) hq) ?_ fun _ _ z => z)⟩
  rintro fl s' hs
  cases fl with
  | next =>
    obtain ⟨σ', H', J, q⟩ := hs
    exact ⟨.non, H', J.os, J.bare, J.base, J.hok, rfl, q⟩
  | ret u =>
    obtain ⟨v, σ', H', J, rv, q⟩ := hs
    exact ⟨v, H', J.os, J.bare, J.base, J.hok, rv, q⟩
  | brk => exact hs.elim fun _ z => z.elim fun _ z => z.2.elim
  | cont => exact hs.elim fun _ z => z.elim fun _ z => z.2.elim
end

/-! ### a def by its body -/
def Os.fin : Os → Ou
  | .nx _ st => .ok (.dat .none) st
  | .ret v st => .ok v st
  | .exc c d _ st => .exc c d st
  | _ => .stk
def envOf (n : Nat) (vs : List Val) : Env := vs.map some ++ List.replicate (n - vs.length) none
def fnM (n : Nat) (m : SM) : FM := fun vs st => (m (envOf n vs) st).fin
section
variable {P : Program} {w : World} {K : PySem.W.Frag} {mg : Str → Option Value} {base : Heap} {ec : List (Addr × Str)}
theorem env_get {n : Nat} {vs : List Val} {i : Nat} {x : Val} (h : (envOf n vs)[i]? = some (some x)) : vs[i]? = some x := by
  unfold envOf at h
  by_cases hi : i < vs.length
  · rw [List.getElem?_append_left (by simpa using hi), List.getElem?_map] at h
    cases e : vs[i]? with
    | none => rw [e] at h; cases h
    | some u => rw [e] at h; simpa using h
  · rw [List.getElem?_append_right (by simpa using hi)] at h
    by_cases h2 : i - (vs.map some).length < n - vs.length
    · rw [List.getElem?_replicate_of_lt h2] at h; cases h
    · rw [List.getElem?_eq_none (by simpa using h2)] at h; cases h
theorem start_get {N : List Str} {vs : List V} {i : Nat} {x : V} (h : vs[i]? = some x) : (L2.start N vs)[i]? = some (some x) := by
  unfold L2.start
  have hi := (List.getElem?_eq_some_iff.mp h).1
  rw [List.getElem?_append_left (by simpa using hi), List.getElem?_map, h]
  rfl
theorem VRs.get {X : Kx} {F H : Hp} {os : List Addr} : ∀ {vs : List V} {xs : List Val} {i : Nat} {x : Val}, VRs X F os H vs xs → xs[i]? = some x → ∃ v, vs[i]? = some v ∧ VR X F os H v x
  | _, _, _, _, .nil, e => by simp at e
  | _, _, 0, _, .cons r _, e => by simp at e; subst e; exact ⟨_, rfl, r⟩
  | _, _, i + 1, x, .cons _ t, e => by
    obtain ⟨u, h1, h2⟩ := VRs.get (i := i) (x := x) t (by simpa using e)
    exact ⟨u, by simpa using h1, h2⟩
theorem rel_start {X : Kx} {F H : Hp} {os : List Addr} {st : List Cn} {vs : List V} {xs : List Val} {N : List Str} (k : StOk X F os H st) (r : VRs X F os H vs xs) (hn : xs.all nofr = true) : Rel X ⟨F, os, H, fun _ => none⟩ F os (L2.start N vs) H (envOf N.length xs) st where
  ok := k
  len := by
    unfold envOf L2.start
    simp [r.len]
  slv := fun i x h => by
    obtain ⟨v, h1, h2⟩ := r.get (env_get h)
    exact ⟨v, start_get h1, h2⟩
  own := fun i j c c' p _ h1 _ _ => by
    have := List.all_eq_true.mp hn _ (List.mem_of_getElem? (env_get h1))
    cases this
  ownB := fun i c p h1 _ => by
    have := List.all_eq_true.mp hn _ (List.mem_of_getElem? (env_get h1))
    cases this
  borB := fun i c p h1 h3 => by
    obtain ⟨v, h2, r2⟩ := r.get (env_get h1)
    rw [start_get h2] at h3
    cases h3
    cases r2 with
    | bor _ _ q _ => exact fun z => by rw [show H p = none from z] at q; cases q
  bs := Ext.refl _ _ _
  pin := fun _ _ h => nomatch h
/-- what is wanted of an error that leaves the def -/
abbrev WL (E : XK) : WX := fun cls d _ H => E cls d H
theorem fn_ok {x qual : Str} {st : Stmt} {f : Addr} {fd : FuncData} {N ps : List Str} {k : Nat} {mb : SM} (F : Fun K x qual st f fd) (S : FnScope N ps (defScope st))
    (hbody : ∀ (cdv : Value) (A : Around) (outer : List PySem.Env) (s : Shared) (H : Hp) (E : XK), Room k (A.deeper (envOfC qual (defScope st) s.heap.objs.size f cdv)) → A.guards = some [] →
      PSs (cxOf (L2.CX P w) P w K mg base N qual (defScope st) f cdv A outer s H E) (defBody st) (tS ⟨K, ec⟩ (WL E) mb)) :
    FnG P w K mg base (L2.CX P w) (k + 1) f fd ps (spOf ⟨K, ec⟩ ps.length (fnM N.length mb)) := by
  refine FnG.of F S (fun {vs H Q E} h => ?_) (fun cdv A outer s H vs Q E hr hg h => ⟨_, hbody cdv A outer s H E hr hg, ?_⟩)
  · obtain ⟨_, _, _, _, _, _, _, hl, _⟩ := h
    exact hl
  · obtain ⟨F0, os, vals, st0, k0, r0, n0, hl, h⟩ := h
    refine ⟨_, F0, os, _, st0, rel_start k0 r0 n0, ?_⟩
    unfold fnM at h
    cases hm : mb (envOf N.length vals) st0 <;> rw [hm] at h
    case nx env' st' => exact fun F1 os1 σ1 H1 R1 => h _ _ _ _ R1.bs R1.ok (.dat .non) Frs.dat
    case ret v st' => exact fun x F1 os1 H1 e k r f => h x F1 os1 H1 e k r f
    case exc c d env' st' => exact fun cls dd F1 os1 σ1 H1 R1 r => h cls dd F1 os1 H1 R1.bs R1.ok r
    all_goals exact False.elim h
theorem fn_tk {N : List Str} {qual : Str} {sc : Scope} {f : Addr} {cdv : Value} {A : Around} {outer : List PySem.Env} {s : Shared} {H : Hp} {E : XK} : Takes (cxOf (L2.CX P w) P w K mg base N qual sc f cdv A outer s H E) (WL E) := takes_of rfl rfl rfl rfl
theorem fn_po {N : List Str} {qual : Str} {sc : Scope} {f : Addr} {cdv : Value} {A : Around} {outer : List PySem.Env} {s : Shared} {H : Hp} {E : XK} :
    PassesOwn (model P w) (cxOf (L2.CX P w) P w K mg base N qual sc f cdv A outer s H E).A (cxOf (L2.CX P w) P w K mg base N qual sc f cdv A outer s H E).env (cxOf (L2.CX P w) P w K mg base N qual sc f cdv A outer s H E).xe := passes_of (X := cxOf (L2.CX P w) P w K mg base N qual sc f cdv A outer s H E) rfl
end

/-! ### its calls -/
section
variable {X : Cx} {ec : List (Addr × Str)} {W : WX} {e : Expr} {pos : Pos}
theorem call_fn {k n : Nat} {f : Addr} {fd : FuncData} {ps : List Str} {x : Str} {p : Pos} {es : List Expr} {kws : List Keyword} {fm : FM} (G : FnG X.prog X.w X.K X.mg X.base (L2.CX X.prog X.w) k f fd ps (spOf (kx X ec) n fm)) (hr : Room k X.A) (hgd : X.A.guards = some [])
    (hb : Binds X.K fd ps []) (tk : Takes X W) {pins : List (Addr × Obj)} {σ : L2.St} {H1 : Hp} {s1 : Shared} {us : List Value} {vs : List V} {Q : VK} (I1 : Inv X pins σ H1 s1) (r1 : Vals vs us)
    (q : spOf (kx X ec) n fm vs H1 Q fun cls dd H' => W cls dd σ H') : wpAny (model X.prog X.w) X.A (call (.ref f) us) (EP X pins σ Q) X.xe s1 := by
  have hlen : us.length = ps.length := by rw [← r1.length]; exact G.len q
  have hbt := hb s1 us I1.kIn (by rw [List.append_nil]; exact hlen)
  rw [List.append_nil] at hbt
  refine wpAny_call (codeAny_mono (G.run hr hgd I1.env0 hbt r1 q) fun r s' hq => ?_)
  cases r with
  | error u => exact (L2.passAt tk σ) pins H1 s1 u s' I1 hq
  | ok fl =>
    cases fl with
    | ret u => exact I1.after hq
    | next => exact hq.elim
    | brk => exact hq.elim
    | cont => exact hq.elim
theorem pe_fn {k n : Nat} {f : Addr} {fd : FuncData} {ps : List Str} {x : Str} {p : Pos} {es : List Expr} {fm : FM} {ra : AM} (G : FnG X.prog X.w X.K X.mg X.base (L2.CX X.prog X.w) k f fd ps (spOf (kx X ec) n fm)) (hr : Room k X.A) (hgd : X.A.guards = some []) (hg : Gl X x) (hm : X.mg x = some (.ref f))
    (hk : PySem.W.keepIn X.K (.ref f) = true) (hb : Binds X.K fd ps []) (tk : Takes X W) (ha : PA X (e :: es) (tA (kx X ec) W ra)) (hdb : (x == ("__debug__" : Str)) = false := by decide) (he : starEach (e :: es) X.env = (false, eval e X.env) :: starEach es X.env := by rfl)
    (hpl : (backTo pos (starEach es X.env)).any (·.1) = false := by rfl) : PE X (.Call (.Name x p) (e :: es) [] pos) (tM (kx X ec) W (callF n fm ra)) := by
  refine ⟨?_⟩
  rintro pins s σ H Q I ⟨B, F, os, env, st, R, h⟩
  have h2 : tA (kx X ec) W ra σ H fun vs H1 => spOf (kx X ec) n fm vs H1 Q fun cls dd H' => W cls dd σ H' := by
    refine ⟨B, F, os, env, st, R, PoL.bind h ?_⟩
    intro vs st1 xs F1 os1 H1 ev e1 k1 r1 n1 p1
    by_cases hl : vs.length = n
    · rw [if_pos hl] at p1
      exact ⟨F1, os1, vs, st1, k1, r1, n1, r1.len.trans hl, p1.shift e1⟩
    · rw [if_neg hl] at p1
      exact p1.elim
  refine wpAny_Call_Name_kw (ld_glob I hg hm ?_ hdb)
  refine PySem.W.callWith_K (h₀ := X.base) I.ok.mod.kin hk (thn (ha.run pos pins s σ H _ I h2) ?_) he hpl
  rintro us s1 ⟨vs, H1, I1, r1, q⟩
  exact ⟨I1.kIn, call_fn (x := x) (p := p) (es := es) (kws := []) G hr hgd hb tk I1 r1 q⟩
end
end Pl

set_option Elab.async false
set_option linter.all false
set_option maxRecDepth 100000
set_option maxHeartbeats 4000000
namespace Pl
open PySem PySem.Spec PyProof.Rows L2

/-! ### the operators, whatever they stand between -/
section
variable {X : Cx} {ec : List (Addr × Str)} {W : WX} {e a b c : Expr} {ma mb mc m : EM} {pos : Pos}
def gAdd (v w : Val) : Option Val := (gII (fun _ _ => true) (· + ·) v w).or ((gAddS v w).or ((gCatL v w).or (gCatT v w)))
theorem pe_add (ha : PE X a (tM (kx X ec) W ma)) (hb : PE X b (tM (kx X ec) W mb)) : PE X (.BinOp a .Add b pos) (tM (kx X ec) W (binM gAdd ma mb)) :=
  pe_bin (op_add.or (op_add_str.or (op_cat.or op_catA))) (snd_rI0.or (snd_addS.or (snd_catL.or snd_catT))) ha hb
def gSub : Val → Val → Option Val := gII (fun _ _ => true) (· - ·)
theorem pe_sb (ha : PE X a (tM (kx X ec) W ma)) (hb : PE X b (tM (kx X ec) W mb)) : PE X (.BinOp a .Sub b pos) (tM (kx X ec) W (binM gSub ma mb)) := pe_bin op_sub snd_rI0 ha hb
def cMul (i j : Int) : Bool := decide (-(2 ^ 64) < i ∧ i < 2 ^ 64) || decide (-(2 ^ 64) < j ∧ j < 2 ^ 64)
theorem cMul_ok (i j : Int) (h : cMul i j = true) : CMul i j := by
  unfold cMul at h
  rw [Bool.or_eq_true, decide_eq_true_eq, decide_eq_true_eq] at h
  exact h
/-- a text n times -/
def strRep (x : Str) (n : Int) : Str := ⟨(List.replicate n.toNat x.cps).foldl (· ++ ·) #[]⟩
def gRepS : Val → Val → Option Val
  | .dat (.str x), .dat (.int n) => if 0 ≤ n ∧ n ≤ 1000 ∧ x.length = 1 then some (.dat (.str (strRep x n))) else none
  | _, _ => none
def rRepS : R2 := fun x y H Q => ∃ z n, x = .str z ∧ y = .int n ∧ (0 ≤ n ∧ n ≤ 1000 ∧ z.length = 1) ∧ Q (.str (strRep z n)) H
theorem op_repS : OpR X (binaryOp .Mult) rRepS := by
  intro pins s σ H x y v u Q I rx ry h
  obtain ⟨z, n, rfl, rfl, ⟨h0, h1, hz⟩, q⟩ := h
  obtain ⟨t, rfl⟩ := rx
  obtain ⟨t', rfl⟩ := ry
  by_cases hn : n < 1
  · have e : n = 0 := by omega
    subst e
    exact PySem.P.mul_str_none hn (by omega) ⟨.str _, H, I.tok _, ⟨_, rfl⟩, q⟩
  · refine PySem.P.mul_str ?_ (fun _ _ => ?_) (fun _ _ => ?_) ?_
    · have a1 : ¬ n < -(2 ^ 63 : Int) := by omega
      have a2 : ¬ n ≥ 2 ^ 63 := by omega
      rw [decide_eq_false a1, decide_eq_false a2]; rfl
    · rw [hz]
      have : (1 : Int) ≤ (2 ^ 63 - 1) / n := by
        rw [Int.le_ediv_iff_mul_le (by omega)]
        omega
      omega
    · rw [hz, Nat.one_mul]
      have : ¬ n.toNat > 2 ^ 24 := by omega
      simpa [Builtin.Str.tooLong, sizeLine] using this
    · rw [if_neg hn]
      by_cases h2 : (n == 1 || z.length == 0) = true
      · rw [if_pos h2]
        have e : n = 1 := by
          rw [hz] at h2
          simpa using h2
        subst e
        refine ⟨.str z, H, I, ⟨_, rfl⟩, ?_⟩
        have e2 : strRep z 1 = z := by
          show (⟨#[] ++ z.cps⟩ : Str) = z
          rw [Array.empty_append]
        rw [e2] at q
        exact q
      · rw [if_neg h2]
        refine ⟨?_, .str _, H, I.tok _, ⟨_, rfl⟩, q⟩
        have aux : ∀ (m : Nat) (acc : Array Nat), ((List.replicate m z.cps).foldl (· ++ ·) acc).size = acc.size + m * z.cps.size := by
          intro m
          induction m with
          | zero => intro acc; simp
          | succ m ih => intro acc; rw [List.replicate_succ, List.foldl_cons, ih, Array.size_append]; rw [Nat.succ_mul]; omega
        show ((List.replicate n.toNat z.cps).foldl (· ++ ·) #[]).size ≤ sizeLine
        rw [aux, show z.cps.size = 1 from hz, sizeLine_eq]
        simp
        omega
theorem snd_repS {K : Kx} : Snd2 K rRepS gRepS := by
  intro F os H st x y v w z Q k rx ry e q
  unfold gRepS at e
  split at e
  · split at e
    · rename_i hl
      cases e
      exact ⟨_, _, rx.str, ry.int, hl, q _ F H (Ext.refl _ _ _) k (.dat (.str _)) Frs.dat⟩
    · cases e
  · cases e
def gMul (v w : Val) : Option Val := (gII cMul (· * ·) v w).or ((gRepL v w).or ((gRepT v w).or (gRepS v w)))
theorem pe_ml (ha : PE X a (tM (kx X ec) W ma)) (hb : PE X b (tM (kx X ec) W mb)) : PE X (.BinOp a .Mult b pos) (tM (kx X ec) W (binM gMul ma mb)) :=
  pe_bin (op_mul.or (op_rep.or (op_repT.or op_repS))) ((snd_rI cMul_ok).or (snd_repL.or (snd_repT.or snd_repS))) ha hb
def gMod : Val → Val → Option Val := gII (fun _ j => decide (0 < j)) (· % ·)
theorem pe_md (ha : PE X a (tM (kx X ec) W ma)) (hb : PE X b (tM (kx X ec) W mb)) : PE X (.BinOp a .Mod b pos) (tM (kx X ec) W (binM gMod ma mb)) :=
  pe_bin op_mod (snd_rI fun _ _ h => of_decide_eq_true h) ha hb
def gDiv : Val → Val → Option Val := gII (fun _ j => decide (0 < j ∧ j < 1073741824)) (· / ·)
theorem pe_fd (ha : PE X a (tM (kx X ec) W ma)) (hb : PE X b (tM (kx X ec) W mb)) : PE X (.BinOp a .FloorDiv b pos) (tM (kx X ec) W (binM gDiv ma mb)) :=
  pe_bin op_fdiv (snd_rI fun i j h => show CDiv i j from of_decide_eq_true (p := 0 < j ∧ j < 1073741824) h) ha hb
def gPow : Val → Val → Option Val := gII (fun i j => decide (0 ≤ j ∧ j ≤ 1000000 ∧ i.natAbs < 2 ^ 64)) (fun i j => i ^ j.toNat)
theorem pe_pw (ha : PE X a (tM (kx X ec) W ma)) (hb : PE X b (tM (kx X ec) W mb)) : PE X (.BinOp a .Pow b pos) (tM (kx X ec) W (binM gPow ma mb)) :=
  pe_bin op_pow (snd_rI fun i j h => show CPow i j from of_decide_eq_true (p := 0 ≤ j ∧ j ≤ 1000000 ∧ i.natAbs < 2 ^ 64) h) ha hb
def gNeg : Val → Option Val
  | .dat (.int i) => some (.dat (.int (-i)))
  | _ => none
theorem snd_neg {K : Kx} : Snd1 K (rU fun i => .int (-i)) gNeg := by
  intro F os H st x v z Q k rx e q
  unfold gNeg at e
  split at e
  · cases e
    exact ⟨_, rx.int, q _ F H (Ext.refl _ _ _) k (.dat (.int _)) Frs.dat⟩
  · cases e
theorem pe_ng (ha : PE X a (tM (kx X ec) W ma)) : PE X (.UnaryOp .USub a pos) (tM (kx X ec) W (unM gNeg ma)) := pe_unM un_neg snd_neg ha

/-! ### the comparisons -/
def gEqS : Val → Val → Option Val
  | .dat (.str a), .dat (.str b) => some (.dat (.bool (decide (a = b))))
  | _, _ => none
theorem snd_eqS {K : Kx} : Snd2 K L2.rEq gEqS := by
  intro F os H st x y v w z Q k rx ry e q
  unfold gEqS at e
  split at e
  · rename_i a b
    cases e
    have hx := rx.str
    have hy := ry.str
    subst hx hy
    refine ⟨rfl, ?_⟩
    have : decide (V.str a = V.str b) = decide (a = b) := by
      by_cases h : a = b
      · subst h; simp
      · rw [decide_eq_false h, decide_eq_false (fun z => h (V.str.inj z))]
    rw [this]
    exact q _ F H (Ext.refl _ _ _) k (.dat (.bl _)) Frs.dat
  · cases e
def gEqq (v w : Val) : Option Val := (gEqS v w).or (gEq v w)
theorem pe_eq (hu : X.A.units + 64 < cLine) (ha : PE X a (tM (kx X ec) W ma)) (hb : PE X b (tM (kx X ec) W mb)) : PE X (.Compare a [.Eq] [b] pos) (tM (kx X ec) W (binM gEqq ma mb)) := pe_cmpb (op_eq.or (op_eqD hu)) (snd_eqS.or snd_eq) ha hb (nomark b)
theorem pt_eq (hu : X.A.units + 64 < cLine) (ha : PE X a (tM (kx X ec) W ma)) (hb : PE X b (tM (kx X ec) W mb)) : PT X (.Compare a [.Eq] [b] pos) (tT (kx X ec) W (binM gEqq ma mb)) := pt_cmpb (op_eq.or (op_eqD hu)) (snd_eqS.or snd_eq) ha hb (nomark b)
def gNeS : Val → Val → Option Val
  | .dat (.str a), .dat (.str b) => some (.dat (.bool (!decide (a = b))))
  | _, _ => none
theorem snd_neS {K : Kx} : Snd2 K L2.rNe gNeS := by
  intro F os H st x y v w z Q k rx ry e q
  unfold gNeS at e
  split at e
  · rename_i a b
    cases e
    have hx := rx.str
    have hy := ry.str
    subst hx hy
    refine ⟨rfl, ?_⟩
    have : decide (V.str a = V.str b) = decide (a = b) := by
      by_cases h : a = b
      · subst h; simp
      · rw [decide_eq_false h, decide_eq_false (fun z => h (V.str.inj z))]
    rw [this]
    exact q _ F H (Ext.refl _ _ _) k (.dat (.bl _)) Frs.dat
  · cases e
def gNeq (v w : Val) : Option Val := (gNeS v w).or (gNe v w)
theorem pe_ne (hu : X.A.units + 64 < cLine) (ha : PE X a (tM (kx X ec) W ma)) (hb : PE X b (tM (kx X ec) W mb)) : PE X (.Compare a [.NotEq] [b] pos) (tM (kx X ec) W (binM gNeq ma mb)) := pe_cmpb (op_ne.or (op_neD hu)) (snd_neS.or snd_ne) ha hb (nomark b)
theorem pt_ne (hu : X.A.units + 64 < cLine) (ha : PE X a (tM (kx X ec) W ma)) (hb : PE X b (tM (kx X ec) W mb)) : PT X (.Compare a [.NotEq] [b] pos) (tT (kx X ec) W (binM gNeq ma mb)) := pt_cmpb (op_ne.or (op_neD hu)) (snd_neS.or snd_ne) ha hb (nomark b)
def strLe (i j : Str) : Bool := !decide (j.cps.toList < i.cps.toList)
def gLt (v w : Val) : Option Val := (gIB (fun i j => decide (i < j)) v w).or (gSS strLt v w)
def gLe (v w : Val) : Option Val := (gIB (fun i j => decide (i ≤ j)) v w).or (gSS strLe v w)
def gGt : Val → Val → Option Val := gIB (fun i j => decide (j < i))
def gGe : Val → Val → Option Val := gIB (fun i j => decide (j ≤ i))
abbrev rLt : R2 := fun x y H Q => (rI0 (fun i j => .bl (decide (i < j)))) x y H Q ∨ (∃ i j, x = .str i ∧ y = .str j ∧ Q (.bl (decide (i.cps.toList < j.cps.toList))) H)
theorem o_lt : OpR X (compareOp .Lt) rLt := op_lt.or op_lt_str
theorem s_lt {K : Kx} : Snd2 K rLt gLt := snd_rIB.or (snd_SS (f := strLt))
theorem pe_lt (ha : PE X a (tM (kx X ec) W ma)) (hb : PE X b (tM (kx X ec) W mb)) : PE X (.Compare a [.Lt] [b] pos) (tM (kx X ec) W (binM gLt ma mb)) := pe_cmpb o_lt s_lt ha hb (nomark b)
theorem pt_lt (ha : PE X a (tM (kx X ec) W ma)) (hb : PE X b (tM (kx X ec) W mb)) : PT X (.Compare a [.Lt] [b] pos) (tT (kx X ec) W (binM gLt ma mb)) := pt_cmpb o_lt s_lt ha hb (nomark b)
abbrev rLe : R2 := fun x y H Q => (rI0 (fun i j => .bl (decide (i ≤ j)))) x y H Q ∨ (∃ i j, x = .str i ∧ y = .str j ∧ Q (.bl (!decide (j.cps.toList < i.cps.toList))) H)
theorem o_le : OpR X (compareOp .LtE) rLe := op_le.or (op_le_str)
theorem s_le {K : Kx} : Snd2 K rLe gLe := snd_rIB.or (snd_SS (f := strLe))
theorem pe_le (ha : PE X a (tM (kx X ec) W ma)) (hb : PE X b (tM (kx X ec) W mb)) : PE X (.Compare a [.LtE] [b] pos) (tM (kx X ec) W (binM gLe ma mb)) := pe_cmpb o_le s_le ha hb (nomark b)
theorem pt_le (ha : PE X a (tM (kx X ec) W ma)) (hb : PE X b (tM (kx X ec) W mb)) : PT X (.Compare a [.LtE] [b] pos) (tT (kx X ec) W (binM gLe ma mb)) := pt_cmpb o_le s_le ha hb (nomark b)
theorem pe_gt (ha : PE X a (tM (kx X ec) W ma)) (hb : PE X b (tM (kx X ec) W mb)) : PE X (.Compare a [.Gt] [b] pos) (tM (kx X ec) W (binM gGt ma mb)) := pe_cmpb op_gt snd_rIB ha hb (nomark b)
theorem pt_gt (ha : PE X a (tM (kx X ec) W ma)) (hb : PE X b (tM (kx X ec) W mb)) : PT X (.Compare a [.Gt] [b] pos) (tT (kx X ec) W (binM gGt ma mb)) := pt_cmpb op_gt snd_rIB ha hb (nomark b)
theorem pe_ge (ha : PE X a (tM (kx X ec) W ma)) (hb : PE X b (tM (kx X ec) W mb)) : PE X (.Compare a [.GtE] [b] pos) (tM (kx X ec) W (binM gGe ma mb)) := pe_cmpb op_ge snd_rIB ha hb (nomark b)
theorem pt_ge (ha : PE X a (tM (kx X ec) W ma)) (hb : PE X b (tM (kx X ec) W mb)) : PT X (.Compare a [.GtE] [b] pos) (tT (kx X ec) W (binM gGe ma mb)) := pt_cmpb op_ge snd_rIB ha hb (nomark b)
theorem pe_lele (ha : PE X a (tM (kx X ec) W ma)) (hb : PE X b (tM (kx X ec) W mb)) (hc : PE X c (tM (kx X ec) W mc)) (hm : lastMarks [.LtE, .LtE] [b, c] = false := by with_unfolding_all rfl) : PE X (.Compare a [.LtE, .LtE] [b, c] pos) (tM (kx X ec) W (chM gLe gLe ma mb mc)) :=
  pe_ch o_le s_le o_le s_le ha hb hc hm
theorem pt_lele (ha : PE X a (tM (kx X ec) W ma)) (hb : PE X b (tM (kx X ec) W mb)) (hc : PE X c (tM (kx X ec) W mc)) (hm : lastMarks [.LtE, .LtE] [b, c] = false := by with_unfolding_all rfl) : PT X (.Compare a [.LtE, .LtE] [b, c] pos) (tT (kx X ec) W (chM gLe gLe ma mb mc)) :=
  pt_ch o_le s_le o_le s_le ha hb hc hm
def gIs (f : Bool → Bool) (v w : Val) : Option Val := (gIsN f v w).or (gIsB f v w)
theorem pe_is (ha : PE X a (tM (kx X ec) W ma)) (hb : PE X b (tM (kx X ec) W mb)) : PE X (.Compare a [.Is] [b] pos) (tM (kx X ec) W (binM (gIs id) ma mb)) := pe_cmpb (op_isN.or op_isBl) (snd_isN.or snd_isB) ha hb (nomark b)
theorem pt_is (ha : PE X a (tM (kx X ec) W ma)) (hb : PE X b (tM (kx X ec) W mb)) : PT X (.Compare a [.Is] [b] pos) (tT (kx X ec) W (binM (gIs id) ma mb)) := pt_cmpb (op_isN.or op_isBl) (snd_isN.or snd_isB) ha hb (nomark b)
theorem pe_isn (ha : PE X a (tM (kx X ec) W ma)) (hb : PE X b (tM (kx X ec) W mb)) : PE X (.Compare a [.IsNot] [b] pos) (tM (kx X ec) W (binM (gIs (!·)) ma mb)) := pe_cmpb (op_notN.or op_notBl) (snd_notN.or snd_notB) ha hb (nomark b)
theorem pt_isn (ha : PE X a (tM (kx X ec) W ma)) (hb : PE X b (tM (kx X ec) W mb)) : PT X (.Compare a [.IsNot] [b] pos) (tT (kx X ec) W (binM (gIs (!·)) ma mb)) := pt_cmpb (op_notN.or op_notBl) (snd_notN.or snd_notB) ha hb (nomark b)
theorem pe_in (ha : PE X a (tM (kx X ec) W ma)) (hb : PE X b (tM (kx X ec) W mb)) (hm : behindInMarks .In b = false := by rfl) : PE X (.Compare a [.In] [b] pos) (tM (kx X ec) W (binM (gIn false) ma mb)) := pe_cmpb op_in_seq snd_in ha hb hm
theorem pt_in (ha : PE X a (tM (kx X ec) W ma)) (hb : PE X b (tM (kx X ec) W mb)) (hm : behindInMarks .In b = false := by rfl) : PT X (.Compare a [.In] [b] pos) (tT (kx X ec) W (binM (gIn false) ma mb)) := pt_cmpb op_in_seq snd_in ha hb hm
theorem pe_nin (ha : PE X a (tM (kx X ec) W ma)) (hb : PE X b (tM (kx X ec) W mb)) (hm : behindInMarks .NotIn b = false := by rfl) : PE X (.Compare a [.NotIn] [b] pos) (tM (kx X ec) W (binM (gIn true) ma mb)) := pe_cmpb op_notIn_seq snd_in ha hb hm
theorem pt_nin (ha : PE X a (tM (kx X ec) W ma)) (hb : PE X b (tM (kx X ec) W mb)) (hm : behindInMarks .NotIn b = false := by rfl) : PT X (.Compare a [.NotIn] [b] pos) (tT (kx X ec) W (binM (gIn true) ma mb)) := pt_cmpb op_notIn_seq snd_in ha hb hm
theorem pe_ixx (ha : PE X a (tM (kx X ec) W ma)) (hb : PE X b (tM (kx X ec) W mb)) (hp : PlainIx b := by exact fun _ _ => rfl) : PE X (.Subscript a b pos) (tM (kx X ec) W (binM gIx ma mb)) := pe_sub ix_seq snd_ix ha hb hp

/-! ### dicts written out -/
theorem Ext.over {K : Kx} {F0 H0 F H : Hp} {os0 os : List Addr} (e : Ext F0 os0 H0 F os H) {p : Addr} {o : HO} (h0 : H0 p = none) : Ext F0 os0 H0 F os (upd H p o) :=
  ⟨e.fz, fun a u h n => by rw [upd_ne (ne_of_none h h0)]; exact e.keep a u h n, e.new, e.os, fun a h => upd_ne_none (e.dom a h)⟩
theorem StOk.over {K : Kx} {F H : Hp} {os : List Addr} {st : List Cn} (k : StOk K F os H st) {p : Addr} {o : HO} (hf : F p = none) (ho : p ∉ os) : StOk K F os (upd H p o) st := by
  refine ⟨fun a u h => ?_, k.len, fun n a c h1 h2 => ?_, k.nd⟩
  · rw [upd_ne (fun z => by rw [z, hf] at h; cases h)]; exact k.sub _ _ h
  · obtain ⟨f, u, q, r⟩ := k.stv n a c h1 h2
    exact ⟨f, u, by rw [upd_ne (fun z => ho (by rw [← z]; exact List.mem_of_getElem? h1))]; exact q, r⟩
def dctM (ks : List Str) (r : AM) : EM := fun env st => (r env st).bind fun vs st1 => Ou.of st1 (match dats vs with
  | some ds => if ds.length = ks.length ∧ ds.length ≤ 15 then some (.fr (.dk ((ks.zip ds).foldl (fun acc kv => dput acc (.inr kv.1) kv.2) []))) else none
  | none => none)
/-- the readings of the pairs -/
def prs (K : Kx) (W : WX) : List Str → List EM → List (TE × TE)
  | k :: ks, m :: ms => (tM K W (cstM (.str k)), tM K W (frzM m)) :: prs K W ks ms
  | _, _ => []
def aof : List EM → AM
  | [] => anil
  | m :: ms => acons m (aof ms)
theorem drv_merge {K : Kx} {F : Hp} : ∀ {ks : List Str} {xs : List V} {ds : List D} {kvs : List (Key × V)} {es : List (Key × D)}, Drs K F xs ds → Drv K F kvs es →
    Drv K F (((ks.zip xs).map fun p => ((Sum.inr p.1 : Key), p.2)).foldl (fun acc kv => putK acc kv.1 kv.2) kvs) ((ks.zip ds).foldl (fun acc kv => dput acc (.inr kv.1) kv.2) es)
  | [], _, _, _, _, _, r => r
  | k :: ks, _, _, _, _, .nil, r => r
  | k :: ks, _, _, _, _, .cons a b, r => drv_merge (ks := ks) b (drv_put a r)
theorem pairs_ok {K : Kx} {B : Bs} {σ : L2.St} : ∀ (ks : List Str) (ms : List EM) {F H : Hp} {os : List Addr} {env : Env} {st : List Cn} {Q1 : List (V × V) → Hp → Prop}, ks.length = ms.length → Rel K B F os σ H env st → PoL K W σ F os H (aof ms env st) (fun _ _ => True) →
    (∀ vs st1 xs F1 os1 H1, aof ms env st = .ok vs st1 → Ext F os H F1 os1 H1 → StOk K F1 os1 H1 st1 → VRs K F1 os1 H1 xs vs → xs.length = ks.length → Q1 ((ks.zip xs).map fun p => (.str p.1, p.2)) H1) → tPairs (prs K W ks ms) σ H Q1
  | [], [], F, H, os, env, st, Q1, _, R, h, hk => hk [] st [] F os H rfl (Ext.refl _ _ _) R.ok .nil rfl
  | key :: ks, m :: ms, F, H, os, env, st, Q1, hl, R, h, hk => by
    refine ⟨B, F, os, env, st, R, ?_⟩
    intro kv F1 os1 H1 e1 k1 r1 f1
    have ekv := r1.str
    subst ekv
    have R1 := R.ext e1 k1
    have h1 := h.shift e1
    refine ⟨B, F1, os1, env, st, R1, ?_⟩
    have hk2 := hk
    unfold aof acons at h1 hk2
    unfold frzM
    cases hm : m env st with
    | stk => rw [hm] at h1; exact h1
    | exc c d st2 => rw [hm] at h1; exact h1
    | ok v st2 =>
      rw [hm] at h1 hk2
      dsimp only [Ou.bindL, Ou.bind] at h1 hk2 ⊢
      cases hv : v.frz with
      | none => rw [hv] at h1; exact False.elim h1
      | some w =>
        rw [hv] at h1 hk2
        intro x F2 os2 H2 e2 k2 r2 f2
        dsimp only at h1 hk2
        have h2 : PoL K W σ F2 os2 H2 (aof ms env st2) fun _ _ => True := by
          have h3 := h1.shift e2
          cases ha : aof ms env st2 with
          | stk => rw [ha] at h3; exact h3
          | ok vs st3 => exact fun _ _ _ _ _ _ _ _ => trivial
          | exc c d st3 => rw [ha] at h3; exact h3
        refine pairs_ok ks ms (by simpa using hl) (R1.ext e2 k2) h2 fun vs st3 xs F3 os3 H3 ea e3 k3 r3 l3 => ?_
        exact hk2 (w :: vs) st3 (x :: xs) F3 os3 H3 (by rw [ea]; rfl) ((e1.trans e2).trans e3) k3 (.cons (r2.ext e3) r3) (by simp [l3])
  | [], _ :: _, _, _, _, _, _, _, hl, _, _, _ => by simp at hl
  | _ :: _, [], _, _, _, _, _, _, hl, _, _, _ => by simp at hl
theorem zip_len {α β : Type} {ks : List α} {xs : List β} (h : xs.length = ks.length) : (ks.zip xs).length = ks.length := by
  rw [List.length_zip, h, Nat.min_self]
theorem pe_dct {keys : List (Option Expr)} {values : List Expr} {ks : List Str} {ms : List EM} (hp : PPs X pos keys values (prs (kx X ec) W ks ms)) (hl : ks.length = ms.length) (hall : keys.all (·.isSome) = true := by rfl) (hkv : keys.length = values.length := by rfl) (h0 : keys ≠ [] := by exact fun z => nomatch z)
    (h15 : keys.length ≤ 15 := by decide) : PE X (.Dict keys values pos) (tM (kx X ec) W (dctM ks (aof ms))) := (pe_disp hp hall hkv h0 h15).imp fun σ H Q h => by
  obtain ⟨B, F, os, env, st, R, h⟩ := h
  intro p hp
  have e0 := Ext.newO (o := .dK []) R.ok hp
  have k0 := R.ok.newO (o := .dK []) hp
  have f0 := R.ok.free hp
  have R0 := R.ext e0 k0
  unfold dctM at h
  refine pairs_ok ks ms hl R0 ?_ ?_
  · cases ha : aof ms env st with
    | stk => rw [ha] at h; exact h
    | exc c d st1 => rw [ha] at h; exact fun cls dd F1 os1 H1 e k r => h cls dd F1 os1 H1 (e0.trans e) k r
    | ok vs st1 => exact fun _ _ _ _ _ _ _ _ => trivial
  · intro vs st1 xs F1 os1 H1 ea e1 k1 r1 l1
    have hp1 := e1.keep p _ upd_same f0.1
    have hF1 := e1.fnone f0.2 upd_same
    have ho1 := e1.nos f0.1 upd_same
    rw [ea] at h
    dsimp only [OuL.bind] at h
    obtain ⟨z, hz, q⟩ := Po.of h
    cases hd : dats vs with
    | none => rw [hd] at hz; cases hz
    | some ds =>
      rw [hd] at hz
      dsimp only at hz
      split at hz
      · rename_i hle
        cases hz
        have rd := dats_ok r1 hd
        refine ⟨hp1, (ks.zip xs).map fun p => ((Sum.inr p.1 : Key), p.2), by rw [List.map_map]; rfl, ?_, ?_⟩
        · rw [List.length_map, zip_len l1, ← hle.1]; exact hle.2
        · refine q _ _ _ _ ((e0.trans e1).over (K := kx X ec) hp) (k1.over hF1 ho1) (.fr hF1 ho1 upd_same (.dk ?_)) (Frs.new hp)
          exact drv_merge rd .nil
      · cases hz
end
end Pl

set_option Elab.async false
set_option linter.all false
set_option maxRecDepth 100000
set_option maxHeartbeats 4000000
namespace Pl
open PySem PySem.Spec PyProof.Rows L2

/-! ### a container becomes an object of the store -/
section
variable {X : Cx} {ec : List (Addr × Str)} {W : WX} {e a b : Expr} {m ma mb : EM} {pos : Pos}
def setO (i : Nat) (m : EM) : SM := fun env st => (m env st).bindS env fun v st1 => match v with
  | .fr c => .nx (env.set i (some (.obj st1.length))) (st1 ++ [c])
  | _ => .stk
theorem Rel.newObj {K : Kx} {B : Bs} {F F0 : Hp} {os os0 : List Addr} {σ : L2.St} {H H0 : Hp} {env : Env} {st st0 : List Cn} {p : Addr} {o : HO} {c : Cn} (R0 : Rel K B F0 os0 σ H0 env st0) (h0 : H0 p = none) (R : Rel K B F os σ H env st) (hf : F p = none) (ho : p ∉ os) (hp : H p = some o) (hc : CnR K F o c) :
    Rel K B F (os ++ [p]) σ H env (st ++ [c]) := by
  have hB := R0.bs.nn h0
  refine ⟨⟨R.ok.sub, by simp [R.ok.len], fun n a d h1 h2 => ?_, ?_⟩, R.len, fun i x h => ?_, R.own, R.ownB, R.borB, ⟨R.bs.fz, R.bs.keep, R.bs.new, ?_, R.bs.dom⟩, R.pin⟩
  · by_cases hn : n < os.length
    · rw [List.getElem?_append_left hn] at h1
      rw [List.getElem?_append_left (by rw [← R.ok.len]; exact hn)] at h2
      exact R.ok.stv n a d h1 h2
    · have e : n = os.length := by
        have := (List.getElem?_eq_some_iff.mp h1).1
        simp at this
        omega
      subst e
      have e2 : os.length = st.length := R.ok.len
      rw [List.getElem?_append_right (Nat.le_refl _)] at h1
      rw [List.getElem?_append_right (by omega)] at h2
      simp at h1
      rw [e2] at h2
      simp at h2
      subst h1 h2
      exact ⟨hf, o, hp, hc⟩
  · rw [List.nodup_append]
    exact ⟨R.ok.nd, by simp, fun a ha b hb e => by
      have : b = p := by simpa using hb
      subst this
      subst e
      exact ho ha⟩
  · obtain ⟨y, a, b⟩ := R.slv i x h
    obtain ⟨y0, a0, b0⟩ := R0.slv i x h
    rw [a] at a0
    cases a0
    refine ⟨y, a, ?_⟩
    have nin : ∀ {q : Addr} {u : HO}, q ∉ os → H0 q = some u → q ∉ os ++ [p] := fun {q u} h1 h2 h3 => by
      rcases List.mem_append.mp h3 with z | z
      · exact h1 z
      · have : q = p := by simpa using z
        subst this
        rw [h0] at h2; cases h2
    cases b with
    | dat r => exact .dat r
    | fr f1 o1 h1 r1 =>
      cases b0 with
      | fr _ _ h2 _ => exact .fr f1 (nin o1 h2) h1 r1
    | bor f1 o1 h1 r1 =>
      cases b0 with
      | bor _ _ h2 _ => exact .bor f1 (nin o1 h2) h1 r1
    | obj r => exact .obj (by rw [List.getElem?_append_left (List.getElem?_eq_some_iff.mp r).1]; exact r)
    | scr r s => exact .scr r s
  · obtain ⟨m, e1, e2⟩ := R.bs.os
    refine ⟨m ++ [p], by rw [e1, List.append_assoc], fun a ha => ?_⟩
    rcases List.mem_append.mp ha with z | z
    · exact e2 a z
    · have : a = p := by simpa using z
      subst this
      exact hB
theorem setO_ok {K : Kx} {i : Nat} {E : Ends} {σ : L2.St} {H : Hp} (h : tS K W (setO i m) E σ H) : tAsg (tM K W m) (gName i) E σ H := by
  obtain ⟨B, F, os, env, st, R, h⟩ := h
  refine ⟨B, F, os, env, st, R, PoS.bind R h ?_⟩
  intro v st1 x F1 os1 H1 ev e1 R1 r1 f1 p1
  split at p1
  · rename_i c
    cases r1 with
    | @fr p o _ hf ho hp r =>
    have h0 := f1 _ _ rfl rfl
    have R2 := R.newObj h0 R1 hf ho hp r
    refine p1 F1 _ _ H1 (R2.set (.obj ?_) rfl fun _ _ h _ => nomatch h)
    have e2 : os1.length = st1.length := R1.ok.len
    rw [List.getElem?_append_right (by omega), ← e2]
    simp
  · exact False.elim p1
theorem ps_so {i : Nat} {x : Str} {pos' : Pos} (hN : X.N.Nodup) (hi : X.N[i]? = some x) (hx : Loc X.env.scope x) (he : PE X e (tM (kx X ec) W m)) (hs : swapsWith e (some (.Name x pos')) pos.line X.env = pure false := by rfl) (hf : X.fn x = true ∨ X.env.scope.names.lookup x = some .local := by first | exact .inl rfl | exact .inr rfl | assumption) :
    PS X (.Assign [.Name x pos'] e pos) (tS (kx X ec) W (setO i m)) := (ps_set hN hi hx he hs hf).imp fun _ _ _ => setO_ok
/-- a, b, .. = a tuple -/
def unpM (tg : Tg) (m : EM) : SM := fun env st => (m env st).bindS env fun v st1 => match v with
  | .dat d => match bindT tg d env with
    | some env' => .nx env' st1
    | none => .stk
  | _ => .stk
theorem ps_un {tgt : Tg} {g : TG} {tge : Expr} (he : PE X e (tM (kx X ec) W m)) (hgp : PG X tge g) (hg : TgOk X ec tgt g) (hs : swapsWithSole [tge] e pos.line X.env = pure false := by rfl) (hw : swappedStores [tge] e X.env = pure none := by rfl)
    (h1 : (assignEach [tge] X.env).map (·.2) = [assign tge X.env] := by rfl) : PS X (.Assign [tge] e pos) (tS (kx X ec) W (unpM tgt m)) := (ps_asg he hgp hs hw h1).imp fun E σ H h => by
  obtain ⟨B, F, os, env, st, R, h⟩ := h
  refine ⟨B, F, os, env, st, R, PoS.bind R h ?_⟩
  intro v st1 x F1 os1 H1 ev e1 R1 r1 f1 p1
  split at p1
  · rename_i d
    cases r1 with
    | dat r1 =>
      cases hb : bindT tgt d env with
      | none => rw [hb] at p1; exact False.elim p1
      | some env' =>
        rw [hb] at p1
        exact hg B F1 os1 σ H1 env st1 x d env' _ R1 r1 hb fun σ' R' _ => p1 F1 os1 σ' H1 R'
  · exact False.elim p1

/-! ### repr -/
/-- the place of sys.modules is the module's own and no list -/
def SysM (base : Heap) : Prop := ∃ o, base.get? sysModules = some o
theorem pairs_kv {P : Program} {w : World} : ∀ {es : List DictEntry} {kvs : List (Key × V)} {vs : List (Key × Value)}, Pairs (mixKind P w) es vs → KV kvs vs → Vals (kvs.map fun kv => kV kv.1) (es.map (·.key)) ∧ Vals (kvs.map (·.2)) (es.map (·.val))
  | _, _, _, .nil, .nil => ⟨.nil, .nil⟩
  | _, _, _, .cons a b c, .cons d e => by
    obtain ⟨h1, h2⟩ := pairs_kv c e
    refine ⟨.cons ?_ h1, .cons ?_ h2⟩
    · dsimp only; rw [d.1]; exact relV_key a
    · dsimp only; rw [b]; exact d.2
theorem dct_reads {pins : List (Addr × Obj)} {σ : L2.St} {H : Hp} {s : Shared} (I : Inv X pins σ H s) {p : Addr} {kvs : List (Key × V)} (hp : H p = some (.dK kvs)) :
    (p == sysModules) = false ∧ ∃ (o : Obj) (es : Array DictEntry) (ep : Nat), s.heap.get? p = some o ∧ o.cls = .type "dict" ∧ o.data = .dict es ep ∧
      Vals (kvs.map fun kv => kV kv.1) (es.toList.map (·.key)) ∧ Vals (kvs.map (·.2)) (es.toList.map (·.val)) := by
  obtain ⟨hl, hs, vs, r, o, es, ep, h1, h2, h3, h4, h5, h6⟩ := (show ObjOk X.prog X.w H s.heap p (.dK kvs) from I.hok p _ hp)
  obtain ⟨q1, q2⟩ := pairs_kv h5 r
  exact ⟨hs, o, es, ep, h1, h2.1, h3, q1, q2⟩
theorem drk_split {K : Kx} {F : Hp} : ∀ {kvs : List (Key × V)} {ds : List (D × D)}, Drk K F kvs ds → Drs K F (kvs.map fun kv => kV kv.1) (ds.map (·.1)) ∧ Drs K F (kvs.map (·.2)) (ds.map (·.2))
  | _, _, .nil => ⟨.nil, .nil⟩
  | _, _, .cons a b c => ⟨.cons a (drk_split c).1, .cons b (drk_split c).2⟩
def notL : D → Bool
  | .list _ => false
  | _ => true
mutual
/-- no error anywhere within -/
def okD : D → Bool
  | .list ds => okDs ds
  | .tuple ds => okDs ds
  | .dict ds => okDk ds
  | _ => true
def okDs : List D → Bool
  | [] => true
  | d :: ds => okD d && okDs ds
def okDk : List (D × D) → Bool
  | [] => true
  | (k, d) :: ds => notL k && (okD k && (okD d && okDk ds))
end
mutual
theorem Dr.reads {pins : List (Addr × Obj)} {σ : L2.St} {H : Hp} {s : Shared} (I : Inv X pins σ H s) (hsys : SysM X.base) : ∀ (d : D) (v : V) (u : Value), okD d = true → Dr (kx X ec) H v d → RelV v u → ∃ as, Reads s.heap u d as ∧ sysModules ∉ as
  | .none, _, _, _, h, r => by
    cases h
    cases r
    exact ⟨_, Reads.none, by simp⟩
  | .bool b, _, _, _, h, r => by
    cases h
    cases r
    exact ⟨_, Reads.bool b, by simp⟩
  | .int i, _, _, _, h, r => by
    cases h
    obtain ⟨t, rfl⟩ := r
    exact ⟨_, Reads.int i t, by simp⟩
  | .str x, _, _, _, h, r => by
    cases h
    obtain ⟨t, rfl⟩ := r
    exact ⟨_, Reads.str x t, by simp⟩
  | .list ds, _, _, o, h, r => by
    cases h with
    | @lst a xs _ hs ha =>
      cases r
      have od := o
      obtain ⟨its, rv, ⟨o, n, ho, hc, _, hd⟩, _⟩ := I.list (SqL.of hs)
      obtain ⟨as, hr, hn⟩ := Drs.reads I hsys ds _ its (by simpa [okD] using od) ha rv
      refine ⟨_, Reads.list ho hc hd hr, ?_⟩
      obtain ⟨o2, h2⟩ := hsys
      have ne : sysModules ≠ a := fun z => by
        have q := (I.bs _ _ h2).2
        rw [z, hs] at q
        cases q
      simp only [List.mem_cons, not_or]
      exact ⟨ne, hn⟩
  | .tuple ds, _, _, od, h, r => by
    cases h with
    | tup hs ha =>
      cases r
      obtain ⟨its, rv, ⟨o, ho, hc, n, hd⟩, _⟩ := I.tuple hs
      obtain ⟨as, hr, hn⟩ := Drs.reads I hsys ds _ its (by simpa [okD] using od) ha rv
      exact ⟨_, Reads.tuple ho hc hd hr, hn⟩
  | .dict ds, _, _, od, h, r => by
    cases h with
    | err a b x q => simp [okD, okDk, notL] at od
    | erp a b => simp [okD, okDk, notL] at od
    | @dct a kvs _ hs ha =>
      cases r
      obtain ⟨hsm, o, es, ep, h1, h2, h3, q1, q2⟩ := dct_reads I hs
      obtain ⟨as, bs, hr1, hr2, n1, n2⟩ := Drk.reads I hsys ds _ _ _ (by simpa [okD] using od) ha q1 q2
      refine ⟨_, Reads.dict h1 h2 h3 hr1 hr2, ?_⟩
      have ne : sysModules ≠ a := fun z => by
        rw [z] at hsm
        simp at hsm
      simp only [List.cons_append, List.mem_cons, List.mem_append, not_or]
      exact ⟨ne, n1, n2⟩
theorem Drs.reads {pins : List (Addr × Obj)} {σ : L2.St} {H : Hp} {s : Shared} (I : Inv X pins σ H s) (hsys : SysM X.base) : ∀ (ds : List D) (vs : List V) (us : List Value), okDs ds = true → Drs (kx X ec) H vs ds → Vals vs us → ∃ as, ReadsAll s.heap us ds as ∧ sysModules ∉ as
  | [], _, _, _, h, r => by
    cases h
    cases r
    exact ⟨_, ReadsAll.nil, by simp⟩
  | d :: ds, _, _, od, h, r => by
    have od' : okD d = true ∧ okDs ds = true := by simpa [okDs] using od
    cases h with
    | cons h1 h2 =>
      cases r with
      | cons r1 r2 =>
        obtain ⟨as, q1, n1⟩ := Dr.reads I hsys d _ _ od'.1 h1 r1
        obtain ⟨bs, q2, n2⟩ := Drs.reads I hsys ds _ _ od'.2 h2 r2
        refine ⟨_, ReadsAll.cons q1 q2, ?_⟩
        simp only [List.mem_append, not_or]
        exact ⟨n1, n2⟩
theorem Drk.reads {pins : List (Addr × Obj)} {σ : L2.St} {H : Hp} {s : Shared} (I : Inv X pins σ H s) (hsys : SysM X.base) : ∀ (ds : List (D × D)) (kvs : List (Key × V)) (ks vs : List Value), okDk ds = true → Drk (kx X ec) H kvs ds → Vals (kvs.map fun kv => kV kv.1) ks → Vals (kvs.map (·.2)) vs →
    ∃ as bs, ReadsAll s.heap ks (ds.map (·.1)) as ∧ ReadsAll s.heap vs (ds.map (·.2)) bs ∧ sysModules ∉ as ∧ sysModules ∉ bs
  | [], _, _, _, _, h, r1, r2 => by
    cases h
    cases r1
    cases r2
    exact ⟨_, _, ReadsAll.nil, ReadsAll.nil, by simp, by simp⟩
  | (e, d) :: ds, _, _, _, od, h, r1, r2 => by
    have od' : notL e = true ∧ okD e = true ∧ okD d = true ∧ okDk ds = true := by simpa [okDk] using od
    cases h with
    | cons h1 h2 h3 =>
      cases r1 with
      | cons p1 p2 =>
        cases r2 with
        | cons q1 q2 =>
          obtain ⟨as, a1, a2⟩ := Dr.reads I hsys e _ _ od'.2.1 h1 p1
          obtain ⟨bs, b1, b2⟩ := Dr.reads I hsys d _ _ od'.2.2.1 h2 q1
          obtain ⟨cs, es, c1, c2, c3, c4⟩ := Drk.reads I hsys ds _ _ _ od'.2.2.2 h3 p2 q2
          refine ⟨_, _, ReadsAll.cons a1 c1, ReadsAll.cons b1 c2, ?_, ?_⟩
          · simp only [List.mem_append, not_or]; exact ⟨a2, c3⟩
          · simp only [List.mem_append, not_or]; exact ⟨b2, c4⟩
end
def rRepr (K : Kx) : List V → Hp → VK → Prop := fun xs H Q => ∃ x d, xs = [x] ∧ Dr K H x d ∧ okD d = true ∧ d.showable = true ∧ d.depth ≤ 60 ∧ d.shown.length ≤ sizeLine ∧ Q (.str d.shown) H
theorem call_repr (hsys : SysM X.base) (hgd : X.A.guards = some []) (hu : X.A.units + 64 < cLine) : CallR X (.builtin "repr") (rRepr (kx X ec)) := by
  intro pins s σ H xs us Q I r h
  obtain ⟨x, d, rfl, hd, hod, hs, hdp, hz, q⟩ := h
  obtain ⟨u, rfl, ru⟩ := vals1 r
  obtain ⟨as, rd, hn⟩ := Dr.reads I hsys d x u hod hd ru
  have fin : ∀ h' t tk, (∀ b o, s.heap.get? b = some o → h'.get? b = some o) → EP X pins σ Q (.str d.shown t) { s with heap := h', toks := tk } := fun h' t tk hk => ⟨.str d.shown, H, I.kept (t' := tk) hk, ⟨_, rfl⟩, q⟩
  cases hd with
  | non =>
    cases ru
    exact PySem.P.repr_of_none (fin s.heap _ _ fun _ _ z => z)
  | bl b =>
    cases ru
    exact PySem.P.repr_of_bool (fin s.heap _ _ fun _ _ z => z)
  | int i =>
    obtain ⟨t, rfl⟩ := ru
    exact PySem.P.repr_of_int (by simpa [PyData.showable] using hs) (fin s.heap _ _ fun _ _ z => z)
  | str z =>
    obtain ⟨t, rfl⟩ := ru
    exact PySem.P.repr_of_str (fin s.heap _ _ fun _ _ z => z) hz
  | lst a b =>
    cases ru
    exact repr_of_reads' rd hs (fun _ => hn) hgd (by omega) (fun _ _ z => z) (fun h' t tk hk => fin h' t tk hk) hz
  | tup a b =>
    cases ru
    exact repr_of_reads' rd hs (fun _ => hn) hgd (by omega) (fun _ _ z => z) (fun h' t tk hk => fin h' t tk hk) hz
  | dct a b =>
    cases ru
    exact repr_of_reads' rd hs (fun _ => hn) hgd (by omega) (fun _ _ z => z) (fun h' t tk hk => fin h' t tk hk) hz
  | err a b x q => simp [errD, okD, okDk, notL] at hod
  | erp a b => simp [errD, okD, okDk, notL] at hod
theorem VR.viewD {K : Kx} {F H : Hp} {os : List Addr} {st : List Cn} {x : V} {v : Val} (k : StOk K F os H st) (r : VR K F os H x v) {d : D} (e : asView v = some d) : Dr K H x d := by
  cases r with
  | dat r => cases e; exact Dr.mono k.sub _ _ r
  | fr a b c r =>
    cases r with
    | lst r => cases e; exact .lst c (Drs.mono k.sub _ _ r)
    | dk r => cases e
  | bor a b c r =>
    cases r with
    | lst r => cases e; exact .lst c (Drs.mono k.sub _ _ r)
    | dk r => cases e
  | obj a => cases e
  | scr a b => cases e
def gRepr : List Val → Option Val
  | [v] => match asView v with
    | some d => if okD d = true ∧ d.showable = true ∧ d.depth ≤ 60 ∧ d.shown.length ≤ sizeLine then some (.dat (.str d.shown)) else none
    | none => none
  | _ => none
theorem snd_repr {K : Kx} : SndN K (rRepr K) gRepr := by
  intro F os H st xs vs z Q k r e q
  unfold gRepr at e
  split at e
  · split at e
    · rename_i d hd
      split at e
      · rename_i hh
        cases e
        cases r with
        | cons a b =>
          cases b
          exact ⟨_, d, rfl, a.viewD k hd, hh.1, hh.2.1, hh.2.2.1, hh.2.2.2, q _ F H (Ext.refl _ _ _) k (.dat (.str _)) Frs.dat⟩
      · cases e
    · cases e
  · cases e

/-! ### isinstance(x, T) -/
def tyN : D → String
  | .none => "NoneType"
  | .bool _ => "bool"
  | .int _ => "int"
  | .str _ => "str"
  | .list _ => "list"
  | .tuple _ => "tuple"
  | .dict _ => "dict"
def isErr : D → Bool
  | .dict [(.list _, _)] => true
  | _ => false
theorem Dr.ty {K : Kx} {H : Hp} {x : V} {d : D} (ne : isErr d = false) (h : Dr K H x d) : TyX K.K H x (.type (tyN d)) := by
  cases h with
  | non => exact .base .non
  | bl b => exact .base (.bl b)
  | int i => exact .base (.int i)
  | str z => exact .base (.str z)
  | lst a b => exact .base (.lst a)
  | tup a b =>
    rcases a with (a | ⟨o, a⟩) | ⟨o, its, n, h1, h2, h3⟩
    · exact .base (.tup a)
    · exact .fTuple a
    · exact .kTuple h1 h2
  | dct a b => exact .base (.dK a)
  | err a b x q => simp [errD, isErr] at ne
  | erp a b => simp [errD, isErr] at ne
def isiM (T : String) (m : EM) : EM := fun env st => (m env st).bind fun v st1 => Ou.of st1 (match asView v with
  | some d => if isErr d = false then (kitB (tyN d) T).map fun b => .dat (.bool b) else none
  | none => none)
theorem pe_isi {T : String} {x : Str} {p px : Pos} (he : PE X e (tM (kx X ec) W m)) (hg : Gl X "isinstance") (hm : X.mg "isinstance" = none) (hgx : Gl X x) (hmx : X.mg x = none) (hv : bootBuiltins x = some (.type T)) (hnx : x ≠ "__name__" := by decide) (hdx : (x == ("__debug__" : Str)) = false := by decide)
    (h1 : starEach [e, .Name x px] X.env = (false, eval e X.env) :: starEach [.Name x px] X.env := by rfl) (h2 : starEach [.Name x px] X.env = (false, eval (.Name x px) X.env) :: starEach [] X.env := by rfl) (h3 : (backTo pos (starEach [.Name x px] X.env)).any (·.1) = false := by rfl) :
    PE X (.Call (.Name "isinstance" p) [e, .Name x px] [] pos) (tM (kx X ec) W (isiM T m)) :=
  (pe_callB call_isi hg hm (by decide +kernel) (pa_cons he (pa_cons (pe_bltn (v := .ty T) hgx hmx hv rfl hnx hdx) pa_nil h2) h1) (by decide) (by decide) h1 h3).imp fun σ H Q h => by
    obtain ⟨B, F, os, env, st, R, h⟩ := h
    refine ⟨B, F, os, env, st, R, Po.bind h ?_⟩
    intro v st1 y F1 os1 H1 ev e1 k1 r1 f1 p1
    obtain ⟨z, hz, q⟩ := p1.of
    cases hd : asView v with
    | none => rw [hd] at hz; cases hz
    | some d =>
      rw [hd] at hz
      dsimp only at hz
      by_cases ne : isErr d = false
      case neg => rw [if_neg ne] at hz; cases hz
      rw [if_pos ne] at hz
      cases hb : kitB (tyN d) T with
      | none => rw [hb] at hz; cases hz
      | some bb =>
        rw [hb] at hz
        cases hz
        exact ⟨y, .ty T, .type (tyN d), .type T, bb, rfl, .ty T, (r1.viewD k1 hd).ty ne, kit_ty hb, q _ _ _ _ e1 k1 (.dat (.bl _)) Frs.dat⟩
end
end Pl

set_option Elab.async false
set_option linter.all false
set_option maxRecDepth 100000
set_option maxHeartbeats 4000000
namespace Pl
open PySem PySem.Spec PyProof.Rows L2

/-! ### the law's end: called by nobody, over a heap of which only the script is tracked -/
/-- the script alone, unless the module itself holds it -/
def scrH (K : PySem.W.Frag) (a : Addr) (ob : Obj) (xs : List V) : Hp := fun b => if b = a ∧ K.lookup a = none then some (.frz ob (.lst xs)) else none
section
variable {K : PySem.W.Frag} {a b : Addr} {ob : Obj} {xs : List V}
theorem scrH_some {u : HO} (h : scrH K a ob xs b = some u) : b = a ∧ K.lookup a = none ∧ u = .frz ob (.lst xs) := by
  unfold scrH at h
  split at h
  · rename_i q
    cases h
    exact ⟨q.1, q.2, rfl⟩
  · cases h
theorem scrH_at (h : K.lookup a = none) : scrH K a ob xs a = some (.frz ob (.lst xs)) := if_pos ⟨rfl, h⟩
end
section
variable {P : Program} {w : World} {K : PySem.W.Frag} {mg mb : Str → Option Value} {ec : List (Addr × Str)} {k : Nat} {fa a : Addr} {fd : FuncData} {x : Str} {s₁ : Shared} {vs : List Value} {ns : List Int} {fm : FM}
theorem law_run (KX : K.In s₁.heap) (hns : s₁.heap.Ns mainGlobals mg) (hb : s₁.heap.Ns builtinsNs mb) (hbb : ∀ x : Str, x ≠ "__name__" → mb x = bootBuiltins x) (hlim : s₁.heap.NoLimit) (hg : s₁.gens = #[])
    (ha : s₁.heap.get? a = some { cls := .type "list", data := .seq vs.toArray }) (hi : IntsAre vs ns) (hl : ns.length ≤ sizeLine) (hr : Room k callerA)
    (hsm : ∃ mm, s₁.heap.Ns sysModules mm) (G : ∀ base : Heap, K.In base → base.Ns mainGlobals mg → SysM base → FnG P w K mg base (L2.CX P w) k fa fd [x] (spOf ⟨K, ec⟩ 1 fm)) (hbind : ∀ (s : Shared) (u : Value), BindsTo s fd ⟨[u], []⟩ [(x, u)])
    (law : ∃ st, fm [.scr (ns.map PyData.int)] [] = .ok (.dat (.bool true)) st) :
    codeAny (model P w) callerA (.call (.ref fa) ⟨[.ref a], []⟩) (fun r s' => r = .ok (.ret (.bool true)) ∧ OldK s₁.heap s'.heap ∧ s'.os = s₁.os ∧ AllBare s'.gens) s₁ := by
  have rv : Vals (ns.map V.int) vs := vals_of_ints hi
  have H0 : ∀ {b : Addr} {u : HO}, scrH K a { cls := .type "list", data := .seq vs.toArray } (ns.map V.int) b = some u → b = a ∧ K.lookup a = none ∧ u = .frz { cls := .type "list", data := .seq vs.toArray } (.lst (ns.map V.int)) := fun h => scrH_some h
  have Hn : ∀ {b : Addr}, b ≠ a → scrH K a { cls := .type "list", data := .seq vs.toArray } (ns.map V.int) b = none := fun {b} h => if_neg fun z => h z.1
  have Hk : ∀ {o : Obj}, K.lookup a = some o → ∀ b, scrH K a { cls := .type "list", data := .seq vs.toArray } (ns.map V.int) b = none := fun {o} h b => if_neg fun z => by rw [h] at z; exact nomatch z.2
  generalize hH : scrH K a { cls := .type "list", data := .seq vs.toArray } (ns.map V.int) = H at H0 Hn Hk
  have hok : HOk P w H s₁.heap := fun b u h => by
    obtain ⟨e1, _, e2⟩ := H0 h
    subst e1 e2
    exact ⟨ha, by rw [List.length_map]; exact hl, vs, _, rv, ha⟩
  have seq : SqL K H a (ns.map V.int) := by
    cases hk : K.lookup a with
    | none => exact .inl (.inr ⟨_, by rw [← hH]; exact scrH_at hk⟩)
    | some o =>
      have e := KX a o hk
      rw [ha] at e
      cases e
      exact .inr ⟨_, vs.toArray, _, hk, rfl, rfl, rfl, by rw [List.size_toArray, hi.length]; exact hl, by simpa using rv⟩
  -- what the script is not stands in the base
  have down : ∀ {b : Addr} {o : Obj}, s₁.heap.get? b = some o → b ≠ a ∨ (∃ o', K.lookup a = some o') → (hidT s₁.heap H).get? b = some o := fun {b o} e q => hidT_get e (q.elim (fun z => Hn z) fun ⟨o', z⟩ => Hk z b)
  have dct : ∀ {b : Addr} {o : Obj} {es : Array DictEntry} {ep : Nat}, s₁.heap.get? b = some o → o.data = .dict es ep → b ≠ a := fun {b o es ep} e d z => by
    rw [z, ha] at e
    cases e
    cases (show Data.seq vs.toArray _ = Data.dict es ep from d)
  have nsb : ∀ {b : Addr} {m : Str → Option Value}, s₁.heap.Ns b m → (hidT s₁.heap H).Ns b m := fun {b m} ⟨o, es, ep, e, d, r⟩ => ⟨o, es, ep, down e (.inl (dct e d)), d, r⟩
  have Kb : K.In (hidT s₁.heap H) := fun b o e => down (KX b o e) (by
    by_cases z : b = a
    · exact .inr ⟨o, by rw [← z]; exact e⟩
    · exact .inl z)
  have hsb : SysM (hidT s₁.heap H) := by
    obtain ⟨mm, hmm⟩ := hsm
    obtain ⟨o, es, ep, e, _⟩ := nsb hmm
    exact ⟨o, e⟩
  have md : Mod K mg (hidT s₁.heap H) := ⟨Kb, nsb hns, ⟨mb, nsb hb, hbb⟩, hlim.elim fun mc q => ⟨mc, nsb q.1, q.2⟩⟩
  have e0 : Env0 P w K mg (hidT s₁.heap H) callerA [] s₁ H := ⟨rfl, md, fun b o e => of_hidT e, Nat.le_of_eq (hidT_size _ _), trivial, (fun b z => absurd z (by simp [frs])), hok, .of_eq hg⟩
  obtain ⟨stL, hlaw⟩ := law
  have sp : spOf ⟨K, ec⟩ 1 fm [.ref a] H (fun v _ => v = .bl true) fun _ _ _ => False := by
    have drs : ∀ ns : List Int, Drs ⟨K, ec⟩ H (ns.map V.int) (ns.map PyData.int) := fun ns => by
      induction ns with
      | nil => exact .nil
      | cons n ns ih => exact .cons (.int n) ih
    refine ⟨H, [], [.scr (ns.map PyData.int)], [], ⟨L2.Same.refl H, rfl, fun n a c h _ => by simp at h, List.nodup_nil⟩, .cons (.scr seq (drs ns)) .nil, rfl, rfl, ?_⟩
    rw [hlaw]
    exact fun x' F' os' H' _ _ r _ => r.bool
  refine codeAny_mono ((G _ Kb (nsb hns) hsb).run (us := [.ref a]) (vs := [.ref a]) hr rfl e0 (hbind s₁ (.ref a)) (.cons rfl .nil) sp) fun r s' h => ?_
  cases r with
  | error e =>
    obtain ⟨_, _, _, _, _, _, _, _, _, _, _, _, z⟩ := h
    exact z.elim
  | ok fl =>
    cases fl with
    | next => exact h.elim
    | brk => exact h.elim
    | cont => exact h.elim
    | ret u =>
      obtain ⟨v, H', os, bare, un, hok', r', q⟩ := h
      have q' : v = .bl true := q
      subst q'
      obtain rfl : u = Value.bool true := r'
      refine ⟨rfl, OldK.of_keep fun b o e => ?_, os, bare⟩
      cases q : H b with
      | none => exact un.keep b o e q (fun z => nomatch z) (fun z => nomatch z)
      | some u =>
        obtain ⟨e1, _, e2⟩ := H0 q
        subst e1 e2
        have z := hok' b _ (un.frzs b _ _ q)
        rw [ha] at e
        cases e
        exact z.1
end
theorem sys_ns {h : Heap} (x : h.NoSeer) : ∃ mm, h.Ns sysModules mm := by
  exact x.mods.elim fun mm h => ⟨mm, h.1⟩
/-- the goal that k_head leaves -/
theorem walk_law {l : PySem.W.OpenLaw} {n k : Nat} {q : Program} {loose : List Str} {XP : (Str → Option Value) → Heap → Prop} {YP : World → Heap → Prop} {d : DefRec} {K : Params → PySem.W.Frag} {x : Str} {fm : FM}
    (hn : l.most = some n) (hn2 : n ≤ sizeLine) (hdf : d.params.defaults = []) (himp : importsNone q = true) (hr : Room k callerA) (hY : ∀ (w : World) (h : Heap), YP w h → (K w.params).In h)
    (F : ∀ (w : World) (mg : Str → Option Value) (fa : Addr) (h : Heap), (K w.params).In h → h.Ns mainGlobals mg → mg d.name = some (.ref fa) →
      ∃ (ec : List (Addr × Str)) (fd : FuncData), (∀ (s : Shared) (u : Value), BindsTo s fd ⟨[u], []⟩ [(x, u)]) ∧ ∀ base : Heap, (K w.params).In base → base.Ns mainGlobals mg → SysM base → FnG l.prog w (K w.params) mg base (L2.CX l.prog w) k fa fd [x] (spOf ⟨K w.params, ec⟩ 1 fm))
    (law : ∀ ns : List Int, ns.length ≤ n → ∃ st, fm [.scr (ns.map PyData.int)] [] = .ok (.dat (.bool true)) st) : PySem.W.WalkO q loose XP YP l.row.toRowW d [] (fun f vs => PySem.call f vs) := by
  refine Att.attach_call hn hdf fun w s₀ s₁ mg mb fa o pm cd doc a vs ns G Y ho hd hcd hmg hobj hints hlen hg => ?_
  obtain ⟨ec, fd, hb, hF⟩ := F w mg fa _ (hY w _ Y) G.T.g hmg
  exact law_run (hY w _ Y) G.T.g G.T.b G.T.builtins G.T.nolimit hg hobj hints (Nat.le_trans hlen hn2) hr (sys_ns (G.T.seer himp)) hF hb (law ns hlen)
/-- a def of the text behind the top: its function at f, bound to its name -/
structure Dfn (K : PySem.W.Frag) (mg : Str → Option Value) (x : Str) (st : Stmt) (ps : List Str) (f : Addr) (fd : FuncData) : Prop where
  F : Fun K x x st f fd
  mg : mg x = some (.ref f)
  b : Binds K fd ps []
end Pl

set_option Elab.async false
set_option linter.all false
set_option maxRecDepth 100000
set_option maxHeartbeats 4000000
namespace Pl
open PySem PySem.Spec PyProof.Rows L2 PySem.W PySem.Calls

/-! ### an own error: its class, its __init__ -/
abbrev initS (f : Str) : Scope := { kind := .function, names := [(PySem.Str.ofString "self", .local), (f, .local), (PySem.Str.ofString "__class__", .free), (PySem.Str.ofString "super", .globalImplicit)], isGenerator := false, isCoroutine := false, more := [] }
/-- an error's __init__, as a function -/
abbrev initF (qual f m : Str) (dV kV doc pm ct : Value) (an : Option Addr) (cc cda : Addr) (p1 p2 q0 q1 q2 q3 q4 q5 q6 q7 q8 q9 : Pos) : FuncData := ksFn "__init__" qual { posonlyargs := [], args := [{ arg := "self", annotation := none, pos := p1 }, { arg := f, annotation := none, pos := p2 }], vararg := none, kwonlyargs := [], kw_defaults := [], kwarg := none, defaults := [] }
          [.Expr (.Call (.Attribute (.Call (.Name "super" q0) [] [] q1) "__init__" q2) [.Constant (.str m) 0 q3] [] q4) q5, .Assign [.Attribute (.Name "self" q6) f q7] (.Name f q8) q9] (initS f) dV kV doc pm an (.ref cda) ct cc
/-- what the written part says of an error class at C (made by D's __init__ at fI, one field f) -/
structure ErrC (P : Program) (K : Frag) (C fI : Addr) (f : Str) : Prop where
  base : ∃ (B newId initId : String) (bmB : List Value), ExcBaseFacts B newId initId bmB ∧ StoreFacts B bmB "object.__setattr__" "object" ∧ KxsFacts B initId ∧ excInitIn K C bmB newId = true ∧ excOver K C bmB = true ∧ subIn K (.ref C) (.type B) = some true ∧
    ∃ D, ks_superIn K C D "__init__" = some (some (.builtin initId)) ∧ mroIn K C (.ref D) = some true ∧ (clsIn K D).isSome = true ∧
      ∃ (qual m : Str) (oc dV kV doc pm ct ccl cl : Value) (od an cdd cld : Option Addr) (osl ccs csl : Array (Option Value)) (cc cda : Addr) (vs : Array Value) (file : Str) (tf : Tok) (jj : Option Str) (p1 p2 q0 q1 q2 q3 q4 q5 q6 q7 q8 q9 : Pos),
        K.lookup fI = some ⟨oc, od, .func (initF qual f m dV kV doc pm ct an cc cda p1 p2 q0 q1 q2 q3 q4 q5 q6 q7 q8 q9), osl⟩ ∧
        codeIn K (.ref cda) qual = true ∧ K.lookup cda = some ⟨ccl, cdd, .fields vs, ccs⟩ ∧ vs[2]? = some (.str file tf) ∧ ((P.main.file : Str) == file) = true ∧ K.lookup cc = some ⟨cl, cld, .cell (some (.ref D)), csl⟩ ∧ (q2.endLine == q4.line) = true ∧
        (∀ (s : Shared) (a b : Value), BindsTo s (initF qual f m dV kV doc pm ct an cc cda p1 p2 q0 q1 q2 q3 q4 q5 q6 q7 q8 q9) ⟨[a, b], []⟩ [("self", a), (f, b)]) ∧
        (∀ (s : Shared) (a b : Value), BindsTo s (initF qual f m dV kV doc pm ct an cc cda p1 p2 q0 q1 q2 q3 q4 q5 q6 q7 q8 q9) ⟨[a], [(f, b)]⟩ [("self", a), (f, b)])
  sup : nsIn K mainGlobals "super" = some none
  top : (P.main.scope.names.lookup ("super" : Str)).isSome = false
  any : nsIn K cStatics "thirdparty.any" = some none
  iC : findIn K (.ref C) "__init__" = some (some (.ref fI))
  tC : typeIn K (.ref fI) = some (.type "function")
  sa : findIn K (.ref C) "__setattr__" = some (some (.builtin "object.__setattr__"))
  noN : findIn K (.ref C) f = some none
  hdC : hasDictIn K C = true
  fs : (f == ("self" : Str)) = false
  fdb : (f == ("__debug__" : Str)) = false
  fsu : (("super" : Str) == f) = false
  fcl : (("__class__" : Str) == f) = false

section
variable {prog : Program} {w : World} {A : Around} {E : Value → Shared → Prop} {s : Shared} {h₀ : Heap} {L : Addr} {m mg mb : Str → Option Value} {news : List (Addr × Obj)} {K : Frag} {x C D f cc cda : Addr} {ox : Obj} {odx : Option Obj}
/-- super() in a def of a class: the object of super -/
theorem sup_node {body : List Stmt} {q : Str} {scope : Scope} {p0 p1 : Pos} {attr : Str} {whole : Sem Value} {fd : FuncData} {ar : Arg} {vs : Array Value} {file : Str} {tf : Tok} {oc ccl cl : Value} {od cdd cld : Option Addr} {osl ccs csl : Array (Option Value)} {cdD : ClassData} {Q : Value → Shared → Prop}
    (F : Fr h₀ L s.heap m) (X₀ : K.In h₀) (N : News h₀ L s.heap news) (Tg : h₀.Ns mainGlobals mg) (Tb : h₀.Ns builtinsNs mb) (hmb : ∀ x : Str, x ≠ "__name__" → mb x = bootBuiltins x)
    (hf : K.lookup f = some ⟨oc, od, .func fd, osl⟩) (hp : (fd.params.posonlyargs ++ fd.params.args).head? = some ar) (hv : m ar.arg = some (.ref x)) (I : InstAt s.heap x ox C odx)
    (hcode : K.lookup cda = some ⟨ccl, cdd, .fields vs, ccs⟩) (hvs : vs[2]? = some (.str file tf)) (hfile : ((prog.main.file : Str) == file) = true)
    (hcell : K.lookup cc = some ⟨cl, cld, .cell (some (.ref D)), csl⟩) (hD : clsIn K D = some cdD) (hsub : mroIn K C (.ref D) = some true) (hsuper : nsIn K mainGlobals "super" = some none)
    (hat : (attr == ("__class__" : Str)) = false) (hks : scope.names.lookup ("super" : Str) = some .globalImplicit) (hkc : scope.names.lookup ("__class__" : Str) = some .free) (hka : scope.names.lookup ar.arg = some .local) (hk : scope.kind = .function)
    (htop : (prog.main.scope.names.lookup ("super" : Str)).isSome = false)
    (h : ∀ so h', Fr h₀ L h' m → News h₀ L h' ((so, ks_superObj D x C) :: news) → (∀ p ∈ news, p.1 < so) → Q (.ref so) { s with heap := h' }) :
    _root_.PySem.wpAt (model prog w) A (.func body (ksEnv q scope L f (.ref cda) cc)) (attributeBase (.Call (.Name "super" p0) [] [] p1) attr (ksEnv q scope L f (.ref cda) cc) whole) Q E s := by
  have X : K.In s.heap := X₀.keeps F.keep
  have cls : ∃ oD, s.heap.get? D = some oD ∧ oD.data = .cls cdD := by
    unfold clsIn at hD
    split at hD
    · rename_i ho
      cases hD
      exact ⟨_, X _ _ ho, rfl⟩
    · cases hD
  obtain ⟨oD, e1, e2⟩ := cls
  refine ks_wpAt_super_base (env := ksEnv q scope L f (.ref cda) cc) hks hkc hat rfl (X _ _ hf) rfl hp rfl (X _ _ hcode) rfl hvs hfile htop ?_
  have hboot : bootBuiltins "super" = some (.type "super") := by first | rfl | kernel_rfl
  refine ks_loadName_global hk hks (loadGlobal_builtin (env := ksEnv q scope L f (.ref cda) cc) (Tg.keeps F.keep) (mg_none_of X₀ Tg hsuper) (Tb.keeps F.keep) ((hmb _ (by decide +kernel)).trans hboot) ⟨rfl, ?_⟩)
  refine wpAny_loadName_free hk hkc rfl ⟨_, X _ _ hcell, rfl⟩ ?_
  refine wpAny_loadName_local hk hka F.ns hv ?_
  refine ks_wpAny_isType_cls e1 e2 ⟨rfl, ?_⟩
  obtain ⟨hh, g, d, t, os⟩ := s
  refine ks_wpAny_call_super e1 e2 I.at_ I.cls (fun c e => ?_) (looks_mroIn X hsub) (fun h' e k => ?_)
  · have := I.no
    unfold notCls at this
    rw [e] at this
    cases this
  · obtain ⟨F', N', l'⟩ := ks_newsPush (s := ⟨hh, g, d, t, os⟩) F N rfl e k
    exact h _ _ F' N' l'
end
/-- what __init__ leaves -/
structure InitEnd (h h' : Heap) (x C dx : Addr) (f : Str) (v : Value) : Prop where
  keep : ∀ b o, b ≠ x → h.get? b = some o → h'.get? b = some o
  obj : ∃ t : Addr, h'.get? x = some (excObj C t (some dx) .none)
  dbig : h.objs.size ≤ dx
  dne : dx ≠ x
  ns : h'.Ns1 dx (fun y => if y = f then some v else none)
section
variable {P : Program} {w : World} {A : Around} {R : Result → Shared → Prop} {s : Shared} {K : Frag} {mg mb : Str → Option Value} {h₀ : Heap} {C fI : Addr} {f : Str}
theorem err_init (T : ErrC P K C fI f) {x t : Addr} {v : Value} {hg : Heap} (Xg : K.In hg) (Tg0 : hg.Ns mainGlobals mg) (Tb0 : hg.Ns builtinsNs mb) (hmb : ∀ x : Str, x ≠ "__name__" → mb x = bootBuiltins x) (hlim0 : hg.NoLimit) (kg : ∀ b o, hg.get? b = some o → s.heap.get? b = some o)
    (hg0 : hg.get? x = none) (hx : s.heap.get? x = some (excObj C t none .none)) (hroom : A.depth < recursionLimit) {args : Args} (ha : args = ⟨[.ref x, v], []⟩ ∨ args = ⟨[.ref x], [(f, v)]⟩)
    (hq : ∀ h' tk dx, InitEnd s.heap h' x C dx f v → R (.ok (.ret .none)) { s with heap := h', toks := tk }) :
    codeAny (model P w) A (.call (.ref fI) args) R s := by
  obtain ⟨B, newId, initId, bmB, FB, SF, KF, qi, qo, hB, D, hm, hmro, hcD, qual, m, oc, dV, kV, doc, pm, ct, ccl, cl, od, an, cdd, cld, osl, ccs, csl, cc, cda, vs, file, tf, jj, p1, p2, q0, q1, q2, q3, q4, q5, q6, q7, q8, q9, lk, hcd, lc, hvs, hfile, lcc, hq24, b1, b2⟩ := T.base
  have s1 : (initS f).names.lookup ("self" : Str) = some .local := rfl
  have s2 : (initS f).names.lookup f = some .local := by simp [List.lookup, T.fs]
  have s3 : (initS f).names.lookup ("__class__" : Str) = some .free := by
    have h1 : (("__class__" : Str) == ("self" : Str)) = false := by decide
    simp [List.lookup, T.fcl, h1]
  have s4 : (initS f).names.lookup ("super" : Str) = some .globalImplicit := by
    have h1 : (("super" : Str) == ("self" : Str)) = false := by decide
    have h2 : (("super" : Str) == ("__class__" : Str)) = false := by decide
    simp [List.lookup, T.fsu, h1, h2]
  have s5 : ∀ x ∈ (initS f).names, x.2 ≠ .cell := by simp
  obtain ⟨cdD, hcD⟩ := Option.isSome_iff_exists.mp hcD
  obtain ⟨h₀, eh⟩ : ∃ h₀, h₀ = hideAll s.heap [x] := ⟨_, rfl⟩
  have k1 : ∀ b o, b ≠ x → s.heap.get? b = some o → h₀.get? b = some o := fun b o n e => by rw [eh]; exact hideAll_get _ e (by simpa using n)
  have k0 : ∀ b o, h₀.get? b = some o → s.heap.get? b = some o := fun b o e => by rw [eh] at e; exact of_hideAll _ e
  have hx0 : h₀.get? x = none := by rw [eh]; exact hideAll_none _ (by simp)
  have hsz : h₀.objs.size ≤ s.heap.objs.size := by rw [eh]; exact Nat.le_of_eq (hideAll_size _ _)
  have kk : ∀ b o, hg.get? b = some o → h₀.get? b = some o := fun b o e => k1 b o (fun z => by rw [z, hg0] at e; cases e) (kg b o e)
  have X₀ := Xg.keeps kk
  have Tg := Tg0.keeps kk
  have Tb := Tb0.keeps kk
  have hlim := hlim0.keeps kk
  have X := X₀.keeps k0
  have kz : ∀ b o, s.heap.get? b = some o → b ≠ s.heap.objs.size := fun b o e => Nat.ne_of_lt (Heap.lt_size e)
  have bb : BindsTo s (initF qual f m dV kV doc pm ct an cc cda p1 p2 q0 q1 q2 q3 q4 q5 q6 q7 q8 q9) args [("self", .ref x), (f, v)] := by
    rcases ha with rfl | rfl
    · exact b1 _ _ _
    · exact b2 _ _ _
  refine ks_codeAny_call_defAt (fd := initF qual f m dV kV doc pm ct an cc cda p1 p2 q0 q1 q2 q3 q4 q5 q6 q7 q8 q9) (binds := [("self", .ref x), (f, v)]) hroom (X _ _ lk) rfl (hlim.keeps k0) (codeRec_of X hcd) rfl bb s5 ?_ (fun h1 hns hk1 => ?_)
  · intro y hy
    simp only [List.mem_cons, List.not_mem_nil, or_false] at hy
    rcases hy with rfl | rfl
    · exact s1
    · exact s2
  have fs := T.fs
  have F : Fr h₀ s.heap.objs.size h1 (fun y => List.lookup y ([("self", Value.ref x), (f, v)] : List (Str × Value)).reverse) := ⟨hns, fun b o e => hk1 b o (k0 b o e), hsz⟩
  have N : News h₀ s.heap.objs.size h1 [(x, excObj C t none .none)] := fun p hp => by
    rw [List.mem_singleton] at hp
    subst hp
    exact ⟨hk1 _ _ hx, kz _ _ hx, hx0⟩
  have vself : (fun y => List.lookup y ([("self", Value.ref x), (f, v)] : List (Str × Value)).reverse) "self" = some (.ref x) := by
    have : (("self" : Str) == f) = false := by rw [Bool.eq_false_iff] at fs ⊢; intro z; apply fs; rw [beq_iff_eq] at z ⊢; exact z.symm
    simp [List.lookup, this]
  have vf : (fun y => List.lookup y ([("self", Value.ref x), (f, v)] : List (Str × Value)).reverse) f = some v := by simp [List.lookup]
  generalize henv : callEnv (initF qual f m dV kV doc pm ct an cc cda p1 p2 q0 q1 q2 q3 q4 q5 q6 q7 q8 q9) s.heap.objs.size fI = env
  have he : eval (.Call (.Attribute (.Call (.Name "super" q0) [] [] q1) "__init__" q2) [.Constant (.str m) 0 q3] [] q4) env = (do
      let ov ← attributeBase (.Call (.Name "super" q0) [] [] q1) "__init__" env (eval (.Call (.Name "super" q0) [] [] q1) env)
      standAt q2.atName
      let (f, first) ← holding [ov] (getMethod ov "__init__" (do return (← importBound (.Call (.Name "super" q0) [] [] q1) env).getD true))
      callWith q4 f first (backTo q4 (starEach [.Constant (.str m) 0 q3] env)) []) := by
    have hp : methodCallPos true (.Call (.Name "super" q0) [] [] q1) env q2 q4 = pure q4 := by
      unfold methodCallPos
      rw [if_pos (by simp [hq24])]
    show (do
      let ov ← attributeBase (.Call (.Name "super" q0) [] [] q1) "__init__" env (eval (.Call (.Name "super" q0) [] [] q1) env)
      standAt q2.atName
      let (f, first) ← holding [ov] (getMethod ov "__init__" (do return (← importBound (.Call (.Name "super" q0) [] [] q1) env).getD true))
      let cp ← methodCallPos true (.Call (.Name "super" q0) [] [] q1) env q2 q4
      callWith cp f first (backTo q4 (starEach [.Constant (.str m) 0 q3] env)) []) = _
    rw [hp]
    rfl
  subst henv
  refine ks_wpAt_execs_cons (ks_wpAt_Expr_any (ks_wpAt_MethodCall (he := he) (sup_node F X₀ N Tg Tb hmb lk rfl vself (InstAt.of_exc0 (t := t) (c2 := .none) N (by simp)) lc hvs hfile lcc hcD hmro T.sup (by decide) s4 s3 s1 rfl T.top ?_)))
  intro so h2 F2 N2 l2
  refine kxs_method (x := x) KF F2 X₀ N2 (by simp) (InstAt.of_exc0 (t := t) (c2 := .none) N2 (by simp)) T.any hm hB (by decide) ?_
  intro q h3 F3 N3 l3
  refine kxs_callWith1 (x := x) (i := initId) N3 (by simp) ?_
  show wpAny _ _ (spliced [(false, eval (.Constant (.str m) 0 q3) _)]) _ _ _
  refine Calls.spliced_cons (wpAny_Constant_str (Calls.spliced_nil ⟨kxs_at N3 (by simp), ?_⟩))
  have xso : x ≠ so := Nat.ne_of_lt (l2 (x, excObj C t none .none) (by simp))
  have xq : x ≠ q := Nat.ne_of_lt (l3 (x, excObj C t none .none) (by simp))
  refine kxs_call (x := x) (t := t) (dv := none) (c2 := .none) F3 X₀ N3 FB qi (by simp) (UpdF.tail (Ne.symm xq) (UpdF.tail (Ne.symm xso) (UpdF.head (fun _ z => nomatch z)))) (by rw [sizeLine_eq]; exact (by decide : 1 ≤ 16777216)) ?_
  intro t' h4 F4 N4 l4
  dsimp only at N4
  show PySem.wpAt _ _ _ (execs [_] _) _ _ _
  refine PySem.wpAt_of_wpAny (wpAny_execs_cons (plainObj_wpAny_Assign_Attribute ?_))
  have hx4 := (N4 (x, excObj C t' none .none) (by simp)).1
  have X4 : K.In h4 := X₀.keeps F4.keep
  have hL4 := F4.ns
  refine nameX_L (cs := initS f) (cl := [("__class__", cc)]) F4 vf ?_ rfl s2 T.fdb
  refine nameX_L (cs := initS f) (cl := [("__class__", cc)]) F4 vself ?_ rfl s1
  obtain ⟨cd, hc, hd'⟩ := any_some T.hdC
  refine set_plain X4 (od := none) ⟨hx4, rfl, rfl, trivial⟩ T.sa (osa_openX (od := none) SF X4 ⟨hx4, rfl, rfl, trivial⟩ qo (by unfold takerIn; rw [T.noN]; rfl) fun b => ?_)
  refine wpAny_bind (wpAny_pure (wpAny_bind (instanceDict_exc hx4 (looks_clsIn X4 hc) hd' ?_)))
  have hxs : x ≠ h4.objs.size := Nat.ne_of_lt (Heap.lt_size hx4)
  refine HandSPX.store_in_new (dx := h4.objs.size) ⟨_, #[], _, (Heap.get?_update_ne _ _ _ _ hxs.symm).trans (Heap.get?_push_at rfl rfl), rfl, fun e he => absurd he (by simp), fun _ => rfl⟩ fun h5 tk5 hn5 hs5 => ?_
  have hx5 : h5.get? x = some (excObj C t' (some h4.objs.size) .none) := (hs5.2 x hxs).trans (Heap.get?_update_self _ (Heap.get?_push_of_some _ hx4) rfl)
  have k5 : ∀ b o, b ≠ x → h4.get? b = some o → h5.get? b = some o := fun b o n e => (hs5.2 b (Nat.ne_of_lt (Heap.lt_size e))).trans ((Heap.get?_update_ne _ _ _ _ n).trans (Heap.get?_push_of_some _ e))
  have kA : ∀ b o, b ≠ x → s.heap.get? b = some o → h5.get? b = some o := fun b o n e => k5 b o n (F4.keep b o (k1 b o n e))
  have dn : s.heap.objs.size ≤ h4.objs.size := Nat.le_of_lt F4.ns.lt
  have z := hq h5 tk5 h4.objs.size ⟨kA, ⟨t', hx5⟩, dn, Ne.symm hxs, hn5⟩
  exact wpAny_execs_nil z
/-- a made error -/
structure Made (h h' : Heap) (e C d : Addr) (f : Str) (v : Value) : Prop where
  keep : ∀ b o, h.get? b = some o → h'.get? b = some o
  big : h.objs.size ≤ e
  obj : ∃ t : Addr, h'.get? e = some (excObj C t (some d) .none)
  dbig : h.objs.size ≤ d
  dne : d ≠ e
  ns : h'.Ns1 d (fun y => if y = f then some v else none)
theorem err_made (T : ErrC P K C fI f) {v : Value} {hg : Heap} (Xg : K.In hg) (Tg0 : hg.Ns mainGlobals mg) (Tb0 : hg.Ns builtinsNs mb) (hmb : ∀ x : Str, x ≠ "__name__" → mb x = bootBuiltins x) (hlim0 : hg.NoLimit) (kg : ∀ b o, hg.get? b = some o → s.heap.get? b = some o) (hroom : A.depth + 1 < recursionLimit)
    (hq : ∀ h' tk e d, Made s.heap h' e C d f v → R (.ok (.ret (.ref e))) { s with heap := h', toks := tk }) :
    codeAny (model P w) A (.call (.ref C) ⟨[v], []⟩) R s := by
  obtain ⟨B, newId, initId, bmB, FB, SF, KF, qi, qo, hB, _⟩ := id T.base
  have X := Xg.keeps kg
  obtain ⟨nm, N', qn, bs, bm, hdct, sn, sub, ab, col, dd, k0, k1, k2, k3, k5, hC, hT⟩ := excInit_of X qi
  have tf : ∃ oI, s.heap.get? fI = some oI ∧ oI.cls = .type "function" := by
    have h := T.tC
    cases z : K.lookup fI with
    | none =>
      have : (K.lookup fI).map (·.cls) = some (.type "function") := h
      rw [z] at this; cases this
    | some oI =>
      have : (K.lookup fI).map (·.cls) = some (.type "function") := h
      rw [z] at this
      exact ⟨oI, X _ _ z, Option.some.inj this⟩
  obtain ⟨oI, ho, hc⟩ := tf
  obtain ⟨hp, g, dr, tk, os⟩ := s
  have k : ∀ b o, hp.get? b = some o → ((hp.push (kdv_tup [v])).push (HandSPX.excO C hp.objs.size)).get? b = some o := fun b o e => Heap.get?_push_of_some _ (Heap.get?_push_of_some _ e)
  have hget : ((hp.push (kdv_tup [v])).push (HandSPX.excO C hp.objs.size)).get? (hp.objs.size + 1) = some (HandSPX.excO C hp.objs.size) := by heap_get
  have hng : hg.get? (hp.objs.size + 1) = none := by
    cases e : hg.get? (hp.objs.size + 1) with
    | none => rfl
    | some o => exact absurd (Nat.lt_of_succ_lt (Heap.lt_size (kg _ _ e))) (Nat.lt_irrefl _)
  refine HandSPX.call_own FB hT hC (looks_findIn X T.iC) (fun self => exc_bind ho hc self) (by rw [sizeLine_eq]; exact (by decide : 1 ≤ 16777216)) ?_
  refine err_init (s := ⟨(hp.push (kdv_tup [v])).push (HandSPX.excO C hp.objs.size), g, dr, tk, os⟩) T Xg Tg0 Tb0 hmb hlim0 (fun b o e => k b o (kg b o e)) hng hget hroom (.inl rfl) fun h' tk' dx I => ?_
  have sz : ((hp.push (kdv_tup [v])).push (HandSPX.excO C hp.objs.size)).objs.size = hp.objs.size + 2 := by rw [Heap.size_push, Heap.size_push]
  refine ⟨rfl, hq h' tk' (hp.objs.size + 1) dx ⟨fun b o e => I.keep b o (Nat.ne_of_lt (Nat.lt_succ_of_lt (Heap.lt_size e))) (k b o e), Nat.le_succ _, I.obj, ?_, I.dne, I.ns⟩⟩
  have z := I.dbig
  rw [sz] at z
  exact Nat.le_trans (Nat.le_add_right _ 2) z
end
end Pl

set_option Elab.async false
set_option linter.all false
set_option maxRecDepth 100000
set_option maxHeartbeats 4000000
namespace Pl
open PySem PySem.Spec PyProof.Rows L2 PySem.W PySem.Calls

/-! ### an own error made by the names of its arguments -/
section
variable {M : Model} {prog : Program} {w : World} {A : Around} {E : Value → Shared → Prop} {R : Result → Shared → Prop} {h : Heap} {g : Array GenState} {d : Drawn} {t : Nat} {os : OsState}
variable {nm q : Str} {C N : Addr} {bs bm bmB : List Value} {hdct : Bool} {sn : List Str} {sub : List Value} {ab : Bool} {col : Option Bool} {dd : Option Addr} {k0 k1 k2 k3 k5 : Option Value} {B newId initId : String}
theorem kw_checkCall {rest : List Value} {kw : List (Str × Value)} {Q : Unit → Shared → Prop} (hC : h.get? C = some (excClassObj nm q C N bs bm hdct sn sub ab col dd k0 k1 k2 k3 k5 newId))
    (hq : Q () ⟨h, g, d, t, os⟩) : wpAny M A (checkBuiltinCall "type.__call__" ⟨.ref C :: rest, kw⟩) Q E ⟨h, g, d, t, os⟩ := by
  have z3 := tc_sub
  have zT : (⟨h, g, d, t, os⟩ : Shared).TypeIs (.ref C) "type" := ⟨_, hC, rfl⟩
  simp only [tc_split, tc_kind, checkBuiltinCall]
  repeat (any_goals (first | assumption | (with_reducible refine wpAny_map ?_) | (with_reducible refine wpAny_onRaise ?_) | (with_reducible refine wpAny_loadPart_at hC ?_) | wp_step))
theorem kw_checkNew (FB : ExcBaseFacts B newId initId bmB) (hT : ∀ X : String, bm.contains (.type X) = bmB.contains (.type X)) {rest : List Value} {kw : List (Str × Value)} {Q : Unit → Shared → Prop}
    (hC : h.get? C = some (excClassObj nm q C N bs bm hdct sn sub ab col dd k0 k1 k2 k3 k5 newId)) (hq : Q () ⟨h, g, d, t, os⟩) : wpAny M A (checkBuiltinCall newId ⟨.ref C :: rest, kw⟩) Q E ⟨h, g, d, t, os⟩ := by
  have zB : (Value.ref C :: bm).contains (.type B) = true := by
    rw [List.contains_cons, hT, FB.hasB]
    exact Bool.or_true _
  have zs := FB.noStar
  simp only [FB.newRow, FB.newSplit, FB.newKind, checkBuiltinCall]
  repeat (first | (refine wpAny_madeBy_exc hC ?_) | (refine wpAny_staticBase_exc hC ?_) | (refine wpAny_isSubtype_exc hC ?_; rw [zB]) | (refine wpAny_loadPart_at hC ?_) | (simp only [Bool.false_eq_true, bne_self_eq_false, if_false]) | wp_step)
  exact hq
theorem kw_new (FB : ExcBaseFacts B newId initId bmB) (hT : ∀ X : String, bm.contains (.type X) = bmB.contains (.type X)) {rest : List Value} {kw : List (Str × Value)}
    (hC : h.get? C = some (excClassObj nm q C N bs bm hdct sn sub ab col dd k0 k1 k2 k3 k5 newId)) (hrest : rest.length ≤ sizeLine)
    (hq : R (.ok (.ret (.ref (h.objs.size + 1)))) ⟨(h.push (kdv_tup rest)).push (HandSPX.excO C h.objs.size), g, d, t, os⟩) :
    codeAny (model prog w) A (.builtin newId ⟨.ref C :: rest, kw⟩) R ⟨h, g, d, t, os⟩ := by
  have ze := FB.ends
  have zB : (Value.ref C :: bm).contains (.type B) = true := by
    rw [List.contains_cons, hT, FB.hasB]
    exact Bool.or_true _
  have zA : (Value.ref C :: bm).contains (.type "AttributeError") = false := by
    rw [List.contains_cons, hT, FB.noAttr] <;> rfl
  have zN : (Value.ref C :: bm).contains (.type "NameError") = false := by
    rw [List.contains_cons, hT, FB.noName] <;> rfl
  refine codeAny_builtinAt FB.entry ?_
  unfold Builtin.«BaseException.__new__»
  refine _root_.PySem.wpAt_bind ?_
  show _root_.PySem.wpAt _ _ _ (stack >>= _) _ _ _
  refine _root_.PySem.wpAt_bind (_root_.PySem.wpAt_stack fun p below => _root_.PySem.wpAt_of_wpAny ?_)
  wp_walk
  refine _root_.PySem.wpAt_of_wpAny ?_
  rw [FB.owner]
  repeat (first | (with_reducible refine wpAny_loadPart_at hC ?_) | (with_reducible refine wpAny_madeHere_exc FB.canon hC ?_) | (with_reducible refine wpAny_isSubtype_exc hC ?_; first | rw [zN] | rw [zA] | rw [zB]) | wp_step)
  show R _ _
  rw [Heap.size_push]
  exact hq
theorem kw_typeCall (FB : ExcBaseFacts B newId initId bmB) (hT : ∀ X : String, bm.contains (.type X) = bmB.contains (.type X)) {rest : List Value} {kw : List (Str × Value)} {fI : Addr} {Q : Fin → Shared → Prop}
    (hC : h.get? C = some (excClassObj nm q C N bs bm hdct sn sub ab col dd k0 k1 k2 k3 k5 newId)) (hrest : rest.length ≤ sizeLine)
    (hi : Looks (model prog w) h (typeLookup (.ref C) "__init__") (some (.ref fI))) (hb : ∀ self, Looks (model prog w) h (bindSpecial (.ref fI) self) (.ref fI, [self]))
    (hq : codeAny (model prog w) A (.call (.ref fI) ⟨.ref (h.objs.size + 1) :: rest, kw⟩)
      (fun r s' => match r with | .ok (.ret v) => v = .none ∧ Q (.done (.ret (.ref (h.objs.size + 1)))) s' | .ok _ => False | .error e => E e s')
      ⟨(h.push (kdv_tup rest)).push (HandSPX.excO C h.objs.size), g, d, t, os⟩) :
    wpAny (model prog w) A (Builtin.«type.__call__» ⟨.ref C :: rest, kw⟩) Q E ⟨h, g, d, t, os⟩ := by
  repeat (first | (with_reducible refine wpAny_madeBy_exc hC ?_) | (with_reducible refine wpAny_loadPart_at hC ?_) | wp_step)
  refine codeAny_call_builtin_code (Code.quiet_builtin _ FB.quiet) (kw_checkNew FB hT hC ?_)
  refine kw_new FB hT hC hrest ?_
  show wpAny _ _ _ _ _ _
  have kk : ∀ b o, h.get? b = some o → ((h.push (kdv_tup rest)).push (HandSPX.excO C h.objs.size)).get? b = some o := fun b o e => by
    exact Heap.get?_push_of_some _ (Heap.get?_push_of_some _ e)
  have zC := kk _ _ hC
  have zg : ((h.push (kdv_tup rest)).push (HandSPX.excO C h.objs.size)).get? (h.objs.size + 1) = some (HandSPX.excO C h.objs.size) := by
    heap_get
  have zc : (Value.ref C :: bm).contains (.ref C) = true := by
    simp
  have zi := hi.keeps kk
  have zb := (hb (.ref (h.objs.size + 1))).keeps kk
  unfold isInstance
  repeat (first | (with_reducible refine wpAny_loadPart_at zg ?_) | (with_reducible refine wpAny_isSubtype_exc zC ?_; rw [zc]) | wp_step)
  show wpAny _ _ (typeLookup (.ref C) _) _ _ _
  refine zi.at ?_
  refine wpAny_holding (wpAny_bind (zb.at ?_))
  refine wpAny_bind (wpAny_call (codeAny_mono hq fun r s' z => ?_))
  match r, z with
  | .error e, z => exact z
  | .ok (.ret v), z =>
    obtain ⟨rfl, z⟩ := z
    first
      | exact wpAny_pure (wpAny_pure z)
      | (wp_walk; exact z)
  | .ok .next, z => exact False.elim z
  | .ok .brk, z => exact False.elim z
  | .ok .cont, z => exact False.elim z
theorem kw_call (FB : ExcBaseFacts B newId initId bmB) (hT : ∀ X : String, bm.contains (.type X) = bmB.contains (.type X)) {rest : List Value} {kw : List (Str × Value)} {fI : Addr}
    (hC : h.get? C = some (excClassObj nm q C N bs bm hdct sn sub ab col dd k0 k1 k2 k3 k5 newId)) (hrest : rest.length ≤ sizeLine)
    (hi : Looks (model prog w) h (typeLookup (.ref C) "__init__") (some (.ref fI))) (hb : ∀ self, Looks (model prog w) h (bindSpecial (.ref fI) self) (.ref fI, [self]))
    (hq : codeAny (model prog w) (A.under (.builtin "type.__call__" ⟨.ref C :: rest, kw⟩)) (.call (.ref fI) ⟨.ref (h.objs.size + 1) :: rest, kw⟩) (InitBack (h.objs.size + 1) R)
      ⟨(h.push (kdv_tup rest)).push (HandSPX.excO C h.objs.size), g, d, t, os⟩) :
    codeAny (model prog w) A (.call (.ref C) ⟨rest, kw⟩) R ⟨h, g, d, t, os⟩ := by
  have z1 := tc_lookup
  have z2 := tc_bind (.ref C)
  have zT : (⟨h, g, d, t, os⟩ : Shared).TypeIs (.ref C) "type" := ⟨_, hC, rfl⟩
  refine codeAny_of_tree ?_
  show wpAny _ _ (callAny (.ref C) _) _ _ _
  repeat (any_goals (first | assumption | (with_reducible refine wpAny_loadPart_at hC ?_) | wp_step))
  refine ⟨rfl, ?_⟩
  refine codeAny_call_builtin_at (Code.quiet_builtin _ (by decide +kernel)) entry_typeCall (kw_checkCall hC (kw_typeCall FB hT hC hrest hi hb ?_))
  refine codeAny_mono hq fun r s' z => ?_
  rcases r with e | (v | _ | _ | _) <;> exact z
end
end Pl

set_option Elab.async false
set_option linter.all false
set_option maxRecDepth 100000
set_option maxHeartbeats 4000000
namespace Pl
open PySem PySem.Spec PyProof.Rows L2 PySem.W PySem.Calls

section
variable {P : Program} {w : World} {A : Around} {R : Result → Shared → Prop} {s : Shared} {K : Frag} {mg mb : Str → Option Value} {C fI : Addr} {f : Str}
/-- an own error, made by the place or by the name of its argument -/
theorem err_make (T : ErrC P K C fI f) {v : Value} {args : Args} (ha : args = ⟨[v], []⟩ ∨ args = ⟨[], [(f, v)]⟩) {hg : Heap} (Xg : K.In hg) (Tg0 : hg.Ns mainGlobals mg) (Tb0 : hg.Ns builtinsNs mb) (hmb : ∀ x : Str, x ≠ "__name__" → mb x = bootBuiltins x) (hlim0 : hg.NoLimit)
    (kg : ∀ b o, hg.get? b = some o → s.heap.get? b = some o) (hroom : A.depth + 1 < recursionLimit) (hq : ∀ h' tk e d, Made s.heap h' e C d f v → R (.ok (.ret (.ref e))) { s with heap := h', toks := tk }) :
    codeAny (model P w) A (.call (.ref C) args) R s := by
  obtain ⟨B, newId, initId, bmB, FB, SF, KF, qi, qo, hB, _⟩ := id T.base
  have X := Xg.keeps kg
  obtain ⟨nm, N', qn, bs, bm, hdct, sn, sub, ab, col, dd, k0, k1, k2, k3, k5, hC, hT⟩ := excInit_of X qi
  have tf : ∃ oI, s.heap.get? fI = some oI ∧ oI.cls = .type "function" := by
    have h := T.tC
    cases z : K.lookup fI with
    | none =>
      have : (K.lookup fI).map (·.cls) = some (.type "function") := h
      rw [z] at this; cases this
    | some oI =>
      have : (K.lookup fI).map (·.cls) = some (.type "function") := h
      rw [z] at this
      exact ⟨oI, X _ _ z, Option.some.inj this⟩
  obtain ⟨oI, ho, hc⟩ := tf
  obtain ⟨hp, g, dr, tk, os⟩ := s
  have one : ∀ l : List Value, l.length ≤ 1 → l.length ≤ sizeLine := fun l hl => Nat.le_trans hl (by rw [sizeLine_eq]; exact (by decide : 1 ≤ 16777216))
  have main : ∀ (rest : List Value) (kw : List (Str × Value)), args = ⟨rest, kw⟩ → rest.length ≤ 1 → (∀ x : Addr, (⟨.ref x :: rest, kw⟩ : Args) = ⟨[.ref x, v], []⟩ ∨ (⟨.ref x :: rest, kw⟩ : Args) = ⟨[.ref x], [(f, v)]⟩) →
      codeAny (model P w) A (.call (.ref C) args) R ⟨hp, g, dr, tk, os⟩ := by
    intro rest kw e hl hb
    subst e
    have k : ∀ b o, hp.get? b = some o → ((hp.push (kdv_tup rest)).push (HandSPX.excO C hp.objs.size)).get? b = some o := fun b o e => Heap.get?_push_of_some _ (Heap.get?_push_of_some _ e)
    have hget : ((hp.push (kdv_tup rest)).push (HandSPX.excO C hp.objs.size)).get? (hp.objs.size + 1) = some (HandSPX.excO C hp.objs.size) := by heap_get
    have hng : hg.get? (hp.objs.size + 1) = none := by
      cases e : hg.get? (hp.objs.size + 1) with
      | none => rfl
      | some o => exact absurd (Nat.lt_of_succ_lt (Heap.lt_size (kg _ _ e))) (Nat.lt_irrefl _)
    refine kw_call FB hT hC (one _ hl) (looks_findIn X T.iC) (fun self => exc_bind ho hc self) ?_
    refine err_init (s := ⟨(hp.push (kdv_tup rest)).push (HandSPX.excO C hp.objs.size), g, dr, tk, os⟩) T Xg Tg0 Tb0 hmb hlim0 (fun b o e => k b o (kg b o e)) hng hget hroom (hb _) fun h' tk' dx I => ?_
    have sz : ((hp.push (kdv_tup rest)).push (HandSPX.excO C hp.objs.size)).objs.size = hp.objs.size + 2 := by rw [Heap.size_push, Heap.size_push]
    refine ⟨rfl, hq h' tk' (hp.objs.size + 1) dx ⟨fun b o e => I.keep b o (Nat.ne_of_lt (Nat.lt_succ_of_lt (Heap.lt_size e))) (k b o e), Nat.le_succ _, I.obj, ?_, I.dne, I.ns⟩⟩
    have z := I.dbig
    rw [sz] at z
    exact Nat.le_trans (Nat.le_add_right _ 2) z
  rcases ha with rfl | rfl
  · exact main [v] [] rfl (Nat.le_refl _) fun x => .inl rfl
  · exact main [] [(f, v)] rfl (Nat.zero_le _) fun x => .inr rfl
end
/-- two new objects are tracked -/
theorem put2 {X : Cx} {pins : List (Addr × Obj)} {σ : L2.St} {H : Hp} {s : Shared} {h' : Heap} {t' : Nat} {d e : Addr} {u1 u2 : HO} (I : Inv X pins σ H s) (k : ∀ b u, s.heap.get? b = some u → h'.get? b = some u) (hd : s.heap.objs.size ≤ d) (he : s.heap.objs.size ≤ e) (ne : d ≠ e)
    (o1 : ObjOk X.prog X.w (upd (upd H d u1) e u2) h' d u1) (o2 : ObjOk X.prog X.w (upd (upd H d u1) e u2) h' e u2) : Inv X pins σ (upd (upd H d u1) e u2) { s with heap := h', toks := t' } := by
  have nd := I.hok.fresh hd
  have ne' := I.hok.fresh he
  have at_ : ∀ b, b ≠ d → b ≠ e → upd (upd H d u1) e u2 b = H b := fun b h1 h2 => by rw [upd_ne h2, upd_ne h1]
  have old : ∀ b o, H b = some o → upd (upd H d u1) e u2 b = some o := fun b o q => by
    rw [at_ b (fun z => by rw [z, nd] at q; cases q) fun z => by rw [z, ne'] at q; cases q]
    exact q
  refine I.un ⟨fun b o q _ _ _ => k b o q, fun b o q _ _ _ => ⟨o.slots, k b o q⟩, fun b o q n _ => ?_, fun b o q _ => ⟨o, k b o q⟩, fun b xs q => old _ _ q, fun b o xs q => old _ _ q, fun b ps q => ⟨#[], by rw [old _ _ q]; simp⟩⟩ fun b o q => ?_
  · rw [at_ b (fun z => absurd (Heap.lt_size q) (by rw [z]; exact Nat.not_lt_of_le hd)) fun z => absurd (Heap.lt_size q) (by rw [z]; exact Nat.not_lt_of_le he)]
    exact n
  · by_cases h2 : b = e
    · subst h2
      rw [upd_same] at q
      cases q
      exact o2
    · by_cases h1 : b = d
      · subst h1
        rw [upd_ne h2, upd_same] at q
        cases q
        exact o1
      · rw [at_ b h1 h2] at q
        exact (I.hok b o q).stay (fun c u _ r => k c u r) (fun c r => old _ _ r) fun c xs r => old _ _ r

section
variable {X : Cx} {ec : List (Addr × Str)} {W : WX} {m : EM} {e : Expr} {pos : Pos}
def mkE (c : Nat) (m : EM) : EM := fun env st => (frzM m env st).bind fun v st1 => match v with
  | .dat d => .ok (.dat (errD c d)) st1
  | _ => .stk
theorem erO_ok {P : Program} {w : World} {H : Hp} {h : Heap} {e d C t : Addr} (he : h.get? e = some (excObj C t (some d) .none)) : ObjOk P w H h e (ErO (.ref C) d e) := by
  refine ⟨⟨_, _, he, ⟨rfl, rfl⟩, rfl⟩, ⟨_, he⟩, ?_⟩
  rintro h1 h2 ⟨oe, vs, q, z, dd⟩ k
  exact ⟨oe, vs, k _ q, z, dd⟩
theorem call_err {fI C : Addr} {f : Str} {c : Nat} {d : D} (T : ErrC X.prog X.K C fI f) (hc : ec[c]? = some (C, f)) (hr : Room 2 X.A) {pins : List (Addr × Obj)} {σ : L2.St} {H1 F : Hp} {os : List Addr} {st : List Cn} {s1 : Shared} {u : Value} {v : V} {Q : VK} (I1 : Inv X pins σ H1 s1) (r1 : RelV v u)
    (k1 : StOk (kx X ec) F os H1 st) (rd : Dr (kx X ec) F v d) (q : ∀ x F' os' H', Ext F os H1 F' os' H' → StOk (kx X ec) F' os' H' st → VR (kx X ec) F' os' H' x (.dat (errD c d)) → Frs H1 x (.dat (errD c d)) → Q x H')
    {args : Args} (ha : args = ⟨[u], []⟩ ∨ args = ⟨[], [(f, u)]⟩) : wpAny (model X.prog X.w) X.A (call (.ref C) args.pos args.kw) (EP X pins σ Q) X.xe s1 := by
  obtain ⟨mb, b1, b2⟩ := I1.ok.mod.blt
  have z : args = ⟨args.pos, args.kw⟩ := rfl
  refine wpAny_call (codeAny_mono (R := fun r s' => match r with | .ok (.ret v) => EP X pins σ Q v s' | .ok _ => False | .error e => X.xe e s') (err_make T (z ▸ ha) I1.ok.mod.kin I1.ok.mod.glob b1 b2 I1.ok.mod.nolimit I1.bk ?_ fun h' tk e dx M => ?_) fun r s' h => h)
  · have := hr.dp
    omega
  · obtain ⟨t, he⟩ := M.obj
    have hd0 : H1 dx = none := I1.hok.fresh M.dbig
    have he0 : H1 e = none := I1.hok.fresh M.big
    have I2 := put2 (t' := tk) (u1 := .xd [(f, v)]) (u2 := ErO (.ref C) dx e) I1 M.keep M.dbig M.big M.dne (by
      refine ⟨_, M.ns, fun y => ?_⟩
      by_cases hy : y = f
      · subst hy
        simp only [List.lookup, beq_self_eq_true, if_true]
        exact r1
      · have : (y == f) = false := by simpa using hy
        simp only [List.lookup, this, if_neg hy]
        trivial) (erO_ok he)
    have k2 := StOk.newF (o := HO.xd [(f, v)]) k1 hd0
    have e2 := Ext.newF (o := HO.xd [(f, v)]) k1 hd0
    have hne : upd H1 dx (.xd [(f, v)]) e = none := by rw [upd_ne (Ne.symm M.dne)]; exact he0
    have k3 := StOk.newF (o := ErO (.ref C) dx e) k2 hne
    have e3 := Ext.newF (o := ErO (.ref C) dx e) k2 hne
    refine ⟨.ref e, _, I2, rfl, q (.ref e) _ _ _ (e2.trans e3) k3 (.dat (.err hc upd_same ?_ (Dr.mono (e2.trans e3).fz _ _ rd))) Frs.dat⟩
    rw [upd_ne M.dne, upd_same]
theorem pe_mk {fI C : Addr} {f x : Str} {c : Nat} {p : Pos} (T : ErrC X.prog X.K C fI f) (hc : ec[c]? = some (C, f)) (hm : X.mg x = some (.ref C)) (hk : keepIn X.K (.ref C) = true) (hr : Room 2 X.A) (hg : Gl X x) (he : PE X e (tM (kx X ec) W m)) (hdb : (x == ("__debug__" : Str)) = false := by decide)
    (h1 : starEach [e] X.env = (false, eval e X.env) :: starEach [] X.env := by rfl) (hpl : (backTo pos (starEach [] X.env)).any (·.1) = false := by rfl) : PE X (.Call (.Name x p) [e] [] pos) (tM (kx X ec) W (mkE c m)) := by
  refine ⟨?_⟩
  rintro pins s σ H Q I ⟨B, F, os, env, st, R, h⟩
  have h2 : tM (kx X ec) W (frzM m) σ H fun v H1 => ∃ F1 os1 st1 d, StOk (kx X ec) F1 os1 H1 st1 ∧ Dr (kx X ec) F1 v d ∧ ∀ x F' os' H', Ext F1 os1 H1 F' os' H' → StOk (kx X ec) F' os' H' st1 → VR (kx X ec) F' os' H' x (.dat (errD c d)) → Frs H1 x (.dat (errD c d)) → Q x H' := by
    refine ⟨B, F, os, env, st, R, h.bind ?_⟩
    intro v st1 x F1 os1 H1 ev e1 k1 r1 f1 p1
    cases v with
    | dat d =>
      cases r1 with
      | dat r1 => exact ⟨F1, os1, st1, d, k1, r1, fun x F' os' H' e' k' r' f' => p1 x F' os' H' (e1.trans e') k' r' Frs.dat⟩
    | fr => exact False.elim p1
    | bor => exact False.elim p1
    | obj => exact False.elim p1
    | scr => exact False.elim p1
  refine wpAny_Call_Name_kw (ld_glob I hg hm ?_ hdb)
  refine PySem.W.callWith_K (h₀ := X.base) I.ok.mod.kin hk ?_ h1 hpl
  rw [h1]
  show wpAny _ _ (spliced ((false, eval e X.env) :: backTo pos (starEach [] X.env))) _ _ s
  refine Calls.spliced_cons (thn ((pe_frz he).run pins s σ H _ I h2) fun u s1 hh => ?_)
  obtain ⟨v, H1, I1, r1, F1, os1, st1, d, k1, rd, q⟩ := hh
  exact Calls.spliced_nil ⟨I1.kIn, call_err T hc hr I1 r1 k1 rd q (args := ⟨[u], []⟩) (.inl rfl)⟩
theorem pe_mkk {fI C : Addr} {f x : Str} {c : Nat} {p kp : Pos} (T : ErrC X.prog X.K C fI f) (hc : ec[c]? = some (C, f)) (hm : X.mg x = some (.ref C)) (hk : keepIn X.K (.ref C) = true) (hr : Room 2 X.A) (hg : Gl X x) (he : PE X e (tM (kx X ec) W m)) (hdb : (x == ("__debug__" : Str)) = false := by decide)
    : PE X (.Call (.Name x p) [] [⟨some f, e, kp⟩] pos) (tM (kx X ec) W (mkE c m)) := by
  have hks : (backToKw pos (keywordEach [⟨some f, e, kp⟩] X.env)) = [(some f, do let v ← eval e X.env; standAt pos; pure v)] := rfl
  refine ⟨?_⟩
  rintro pins s σ H Q I ⟨B, F, os, env, st, R, h⟩
  have h2 : tM (kx X ec) W (frzM m) σ H fun v H1 => ∃ F1 os1 st1 d, StOk (kx X ec) F1 os1 H1 st1 ∧ Dr (kx X ec) F1 v d ∧ ∀ x F' os' H', Ext F1 os1 H1 F' os' H' → StOk (kx X ec) F' os' H' st1 → VR (kx X ec) F' os' H' x (.dat (errD c d)) → Frs H1 x (.dat (errD c d)) → Q x H' := by
    refine ⟨B, F, os, env, st, R, h.bind ?_⟩
    intro v st1 x F1 os1 H1 ev e1 k1 r1 f1 p1
    cases v with
    | dat d =>
      cases r1 with
      | dat r1 => exact ⟨F1, os1, st1, d, k1, r1, fun x F' os' H' e' k' r' f' => p1 x F' os' H' (e1.trans e') k' r' Frs.dat⟩
    | fr => exact False.elim p1
    | bor => exact False.elim p1
    | obj => exact False.elim p1
    | scr => exact False.elim p1
  refine wpAny_Call_Name_kw (ld_glob I hg hm ?_ hdb)
  refine PySem.W.callWith_KW0 (h₀ := X.base) I.ok.mod.kin hk (by rw [hks]; rfl) ?_ (by rw [hks]; rfl)
  rw [hks]
  show wpAny _ _ (evalAll [do let v ← eval e X.env; standAt pos; pure v]) _ _ s
  have hrun := (pe_frz he).run pins s σ H _ I h2
  show wpAny _ _ ((do let v ← eval e X.env; standAt pos; pure v) >>= fun v => (do
    return v :: (← holding [v] (evalAll [])))) _ _ s
  refine wpAny_bind (wpAny_bind (thn hrun fun u s1 hh => wpAny_bind (wpAny_standAt (wpAny_pure ?_))))
  obtain ⟨v, H1, I1, r1, F1, os1, st1, d, k1, rd, q⟩ := hh
  exact wpAny_bind (wpAny_holding (wpAny_evalAll_nil (wpAny_pure ⟨I1.kIn, call_err T hc hr I1 r1 k1 rd q (args := ⟨[], [(f, u)]⟩) (.inr rfl)⟩)))
/-- raise C(e) -/
def raiM (c : Nat) (m : EM) : SM := fun env st => (frzM m env st).bindS env fun v st1 => match v with
  | .dat d => .exc c d env st1
  | _ => .stk
theorem ps_ra {fI C : Addr} {f x : Str} {c : Nat} {p pos' : Pos} (T : ErrC X.prog X.K C fI f) (hc : ec[c]? = some (C, f)) (hm : X.mg x = some (.ref C)) (hk : keepIn X.K (.ref C) = true) (hr : Room 2 X.A) (hca : X.calm = true) (tk : Takes X W) (ra : Raises X (.ref C)) (hg : Gl X x) (he : PE X e (tM (kx X ec) W m)) (hdb : (x == ("__debug__" : Str)) = false := by decide)
    (h1 : starEach [e] X.env = (false, eval e X.env) :: starEach [] X.env := by rfl) (hpl : (backTo pos (starEach [] X.env)).any (·.1) = false := by rfl) : PS X (.Raise (some (.Call (.Name x p) [e] [] pos)) none pos') (tS (kx X ec) W (raiM c m)) := by
  have mk : PMk X (.Call (.Name x p) [e] [] pos) (fun σ H Q => tM (kx X ec) W (frzM m) σ H fun v H1 => ∃ F1 os1 st1 d, StOk (kx X ec) F1 os1 H1 st1 ∧ Dr (kx X ec) F1 v d ∧ ∀ cls dd F' os' H', Ext F1 os1 H1 F' os' H' → StOk (kx X ec) F' os' H' st1 → ErD (kx X ec) F' cls dd c d → Q cls dd H') := by
    intro pins s σ H Q I h2
    refine wpAny_Call_Name_kw (ld_glob I hg hm ?_ hdb)
    refine PySem.W.callWith_K (h₀ := X.base) I.ok.mod.kin hk ?_ h1 hpl
    rw [h1]
    show wpAny _ _ (spliced ((false, eval e X.env) :: backTo pos (starEach [] X.env))) _ _ s
    refine Calls.spliced_cons (thn ((pe_frz he).run pins s σ H _ I h2) fun u s1 hh => ?_)
    obtain ⟨v, H1, I1, r1, F1, os1, st1, d, k1, rd, q⟩ := hh
    refine Calls.spliced_nil ⟨I1.kIn, ?_⟩
    obtain ⟨mb, b1, b2⟩ := I1.ok.mod.blt
    show wpAny _ _ (call (.ref C) [u]) _ _ _
    refine wpAny_call (codeAny_mono (R := fun r s' => match r with | .ok (.ret v) => MkP X pins σ Q v s' | .ok _ => False | .error e => X.xe e s') (err_make T (.inl rfl) I1.ok.mod.kin I1.ok.mod.glob b1 b2 I1.ok.mod.nolimit I1.bk ?_ fun h' tk e dx M => ?_) fun r s' h => h)
    · have := hr.dp
      omega
    · obtain ⟨t, he⟩ := M.obj
      have hd0 : H1 dx = none := I1.hok.fresh M.dbig
      have he0 : H1 e = none := I1.hok.fresh M.big
      have en : s1.heap.get? e = none := by
        cases z : s1.heap.get? e with
        | none => rfl
        | some o => exact absurd (Nat.lt_of_lt_of_le (Heap.lt_size z) M.big) (Nat.lt_irrefl _)
      have kh : ∀ b o, s1.heap.get? b = some o → (hideAll h' [e]).get? b = some o := fun b o z => hideAll_get _ (M.keep b o z) (by
        rw [List.mem_singleton]
        intro q
        rw [q, en] at z
        cases z)
      obtain ⟨oD, es, ep, n1, n2⟩ := M.ns
      have hns : (hideAll h' [e]).Ns1 dx (fun y => if y = f then some u else none) := ⟨oD, es, ep, hideAll_get _ n1 (by rw [List.mem_singleton]; exact M.dne), n2⟩
      have I2 := I1.laid (t' := tk) (a := dx) (o := .xd [(f, v)]) kh M.dbig (by
        refine ⟨_, hns, fun y => ?_⟩
        by_cases hy : y = f
        · subst hy
          simp only [List.lookup, beq_self_eq_true, if_true]
          exact r1
        · have : (y == f) = false := by simpa using hy
          simp only [List.lookup, this, if_neg hy]
          trivial)
      have k2 := StOk.newF (o := HO.xd [(f, v)]) k1 hd0
      have e2 := Ext.newF (o := HO.xd [(f, v)]) k1 hd0
      refine ⟨e, _, _, _, _, .ref C, some dx, rfl, I2, fun b o z => of_hideAll _ z, hideAll_none _ (by simp), he, ⟨rfl, rfl⟩, rfl, rfl, ?_, rfl, I1.bare, ra, q _ _ _ _ _ e2 k2 ⟨C, f, dx, v, hc, rfl, rfl, upd_same, Dr.mono e2.fz _ _ rd⟩⟩
      rw [upd_ne (Ne.symm M.dne)]
      exact he0
  refine (L2.ps_raise hca tk mk).imp fun E σ H h => ?_
  obtain ⟨B, F, os, env, st, R, h⟩ := h
  refine ⟨B, F, os, env, st, R, ?_⟩
  unfold raiM at h
  unfold PoS at h
  generalize ho : frzM m env st = o at h
  cases o with
  | stk => exact False.elim h
  | exc c' d' st' => exact fun cls dd F' os' H' e' k' r' => h cls dd F' os' σ H' (R.ext e' k') r'
  | ok v st1 =>
    intro x F1 os1 H1 e1 k1 r1 f1
    cases v with
    | dat d =>
      cases r1 with
      | dat r1 => exact ⟨F1, os1, st1, d, k1, r1, fun cls dd F' os' H' e' k' r' => h cls dd F' os' σ H' (R.ext (e1.trans e') k') r'⟩
    | fr => exact False.elim h
    | bor => exact False.elim h
    | obj => exact False.elim h
    | scr => exact False.elim h
end
end Pl

set_option Elab.async false
set_option linter.all false
set_option maxRecDepth 100000
set_option maxHeartbeats 4000000
namespace Pl
open PySem PySem.Spec PyProof.Rows L2 PySem.W PySem.Calls

/-! ### what errors answer -/
/-- what the written part says of an error class, for its objects to be asked -/
structure ErrI (K : Frag) (C : Addr) (f : Str) : Prop where
  cl : (clsIn K C).isSome = true
  ga : findIn K (.ref C) "__getattribute__" = some (some (.builtin "BaseException.__getattribute__"))
  gg : findIn K (.ref C) "__getattr__" = some none
  ex : subIn K (.ref C) (.type "BaseException") = some true
  ca : findIn K (.ref C) "__class__" = some (some (.builtin "object.__class__"))
  cn : specialIn K (.builtin "object.__class__") "__get__" = some (some (.builtin "getset_descriptor.__get__"))
  ct : takesIn K (.builtin "object.__class__") = some true
  cm : mroIn K C (.type "object") = some true
  no : findIn K (.ref C) f = some none
  hd : hasDictIn K C = true
  ty : typeIn K (.ref C) = some (.type "type")
def EcI (K : Frag) (ec : List (Addr × Str)) : Prop := ∀ (c : Nat) (C : Addr) (f : Str), ec[c]? = some (C, f) → ErrI K C f
def asErr : Val → Option (Nat × D)
  | .dat (.dict [(.list [.int i], d)]) => if 0 ≤ i then some (i.toNat, d) else none
  | _ => none
theorem asErr_of {v : Val} {c : Nat} {d : D} (h : asErr v = some (c, d)) : v = .dat (errD c d) := by
  unfold asErr at h
  split at h
  · rename_i i d'
    split at h
    · rename_i hi
      cases h
      unfold errD
      rw [Int.toNat_of_nonneg hi]
    · cases h
  · cases h
@[simp] theorem asErr_err {c : Nat} {d : D} : asErr (.dat (errD c d)) = some (c, d) := by
  unfold asErr errD
  simp
theorem drk_err {K : Kx} {F : Hp} {kvs : List (Key × V)} {c : Nat} {d : D} (h : Drk K F kvs [(.list [.int c], d)]) : False := by
  generalize hq : (PyData.list [.int (c : Int)] : D) = q at h
  cases h with
  | @cons k v kvs e d ds h1 h2 h3 =>
    cases k with
    | inl i => cases h1; cases hq
    | inr x => cases h1; cases hq
/-- an error in the heap -/
theorem VR.err {X : Kx} {F : Hp} {os : List Addr} {H : Hp} {x : V} {c : Nat} {d : D} (r : VR X F os H x (.dat (errD c d))) : (∃ a e C f v, x = .ref a ∧ X.ec[c]? = some (C, f) ∧ F a = some (ErO (.ref C) e a) ∧ F e = some (.xd [(f, v)]) ∧ Dr X F v d) ∨ ∃ a C, x = .ref a ∧ X.ec[c]? = some (C, ("" : Str)) ∧ F a = some (ExO (.ref C) a) := by
  cases r with
  | dat r =>
    generalize hq : errD c d = q at r
    cases r with
    | err a b x r =>
      unfold errD at hq
      simp only [PyData.dict.injEq, List.cons.injEq, Prod.mk.injEq, PyData.list.injEq, PyData.int.injEq, and_true, Int.natCast_inj] at hq
      obtain ⟨h1, h2⟩ := hq
      subst h1 h2
      exact .inl ⟨_, _, _, _, _, rfl, a, b, x, r⟩
    | erp a b =>
      unfold errD at hq
      simp only [PyData.dict.injEq, List.cons.injEq, Prod.mk.injEq, PyData.list.injEq, PyData.int.injEq, and_true, Int.natCast_inj] at hq
      obtain ⟨h1, h2⟩ := hq
      subst h1 h2
      exact .inr ⟨_, _, rfl, a, b⟩
    | dct a b =>
      unfold errD at hq
      cases hq
      exact (drk_err b).elim
    | non => cases hq
    | bl => cases hq
    | int => cases hq
    | str => cases hq
    | lst => cases hq
    | tup => cases hq
/-- its object, as the library's rules ask for it -/
theorem err_inst {X : Cx} {pins : List (Addr × Obj)} {σ : L2.St} {H : Hp} {s : Shared} (I : Inv X pins σ H s) {a e C : Addr} {f : Str} {v : V} (h1 : H a = some (ErO (.ref C) e a)) (h2 : H e = some (.xd [(f, v)])) :
    ∃ ox od u, InstAt s.heap a ox C (some od) ∧ lookIn f od = some (some u) ∧ RelV v u := by
  obtain ⟨⟨oe, vs, q1, q2, q3⟩, _⟩ := (show ObjOk X.prog X.w H s.heap a (ErO (.ref C) e a) from I.hok a _ h1)
  obtain ⟨mA, hns, hr⟩ := (show ObjOk X.prog X.w H s.heap e (.xd [(f, v)]) from I.hok e _ h2)
  obtain ⟨od, ho, hl⟩ := lookIn_ns hns
  obtain ⟨u, hu, ru⟩ := RelO.some_of (v := v) (o := mA f) (by
    have := hr f
    simpa [List.lookup] using this)
  exact ⟨oe, od, u, ⟨q1, q2.1, by unfold notCls; rw [q3] <;> rfl, by rw [q2.2]; exact ho⟩, by rw [hl, hu], ru⟩

section
variable {X : Cx} {ec : List (Addr × Str)} {W : WX} {m : EM} {e : Expr} {pos : Pos}
/-- e.n of an error whose class is one of cs -/
def fldM (cs : List Nat) (m : EM) : EM := fun env st => (m env st).bind fun v st1 => match asErr v with
  | some (c, d) => if c ∈ cs then .ok (.dat d) st1 else .stk
  | none => .stk
theorem pe_xat {n : Str} {cs : List Nat} (hI : EcI X.K ec) (hcs : ∀ c ∈ cs, ∃ C, ec[c]? = some (C, n)) (he : PE X e (tM (kx X ec) W m)) (hb : attributeBase e n X.env (eval e X.env) = eval e X.env := by rfl) (hn : n ≠ ("" : Str) := by decide) : PE X (.Attribute e n pos) (tM (kx X ec) W (fldM cs m)) := by
  refine ⟨?_⟩
  rintro pins s σ H Q I ⟨B, F, os, env, st, R, h⟩
  have h2 : tM (kx X ec) W m σ H fun v H1 => ∃ a e C w, v = .ref a ∧ H1 a = some (ErO (.ref C) e a) ∧ H1 e = some (.xd [(n, w)]) ∧ ErrI X.K C n ∧ Q w H1 := by
    refine ⟨B, F, os, env, st, R, Po.bind h ?_⟩
    intro v st1 x F1 os1 H1 ev e1 k1 r1 f1 p1
    cases ha : asErr v with
    | none => rw [ha] at p1; exact False.elim p1
    | some q =>
      obtain ⟨c, d⟩ := q
      rw [ha] at p1
      dsimp only at p1
      by_cases hc : c ∈ cs
      case neg => rw [if_neg hc] at p1; exact False.elim p1
      rw [if_pos hc] at p1
      rw [asErr_of ha] at r1
      obtain ⟨C', h7⟩ := hcs c hc
      rcases r1.err with ⟨a, e, C, f, w, ex, h3, h4, h5, h6⟩ | ⟨a, C, _, h3, _⟩
      case inr =>
        have z := h3.symm.trans h7
        cases z
        exact absurd rfl hn
      have z := h3.symm.trans h7
      cases z
      exact ⟨a, e, _, w, ex, k1.sub _ _ h4, k1.sub _ _ h5, hI c _ _ h7, p1 w F1 os1 H1 e1 k1 (.dat h6) Frs.dat⟩
  refine attr_of hb (thn (he.run pins s σ H _ I h2) fun u s1 hh => ?_)
  obtain ⟨x, H1, I1, rx, a, e, C, w, ex, h4, h5, T, q⟩ := hh
  subst ex
  obtain rfl : u = Value.ref a := rx
  obtain ⟨ox, od, u, J, hl, ru⟩ := err_inst I1 h4 h5
  exact HandSPX.exc_get I1.kIn J T.ga T.gg T.ex (findObj_own T.hd T.no rfl hl) (handed_of ru) ⟨w, H1, I1.tok _, ru, q⟩
/-- isinstance of an error: tb tells it by the class's number -/
def iseM (tb : List Bool) (m : EM) : EM := fun env st => (m env st).bind fun v st1 => match asErr v with
  | some (c, _) => Ou.of st1 ((tb[c]?).map fun b => .dat (.bool b))
  | none => .stk
def IsT (K : Frag) (ec : List (Addr × Str)) (cv : Value) (tb : List Bool) : Prop := ∀ (c : Nat) (C : Addr) (f : Str) (b : Bool), ec[c]? = some (C, f) → tb[c]? = some b → kitOne K (.ref C) cv = some b
def rIse (K : Frag) : List V → Hp → VK → Prop := fun xs H Q => ∃ (a C : Addr) (f : Str) (c : V) (cv : Value) (b : Bool), xs = [.ref a, c] ∧ ((∃ e f v, H a = some (ErO (.ref C) e a) ∧ H e = some (.xd [(f, v)])) ∨ H a = some (ExO (.ref C) a)) ∧ ErrI K C f ∧ (∀ u, RelV c u → u = cv) ∧ kitOne K (.ref C) cv = some b ∧ Q (.bl b) H
theorem call_ise : CallR X (.builtin "isinstance") (rIse X.K) := by
  intro pins s σ H xs us Q I r h
  obtain ⟨a, C, f, c, cv, b, rfl, h12, T, hcv, hk, q⟩ := h
  cases r with
  | cons rx rr =>
    cases rr with
    | cons rt rr =>
      cases rr
      cases rx
      have ec := hcv _ rt
      subst ec
      obtain ⟨ox, od, J⟩ : ∃ ox od, InstAt s.heap a ox C od := by
        rcases h12 with ⟨e, f, v, h1, h2⟩ | h1
        · obtain ⟨ox, od, u, J, _, _⟩ := err_inst I h1 h2
          exact ⟨ox, some od, J⟩
        · obtain ⟨⟨oe, vs, q1, q2, q3, _⟩, _⟩ := (show ObjOk X.prog X.w H s.heap a (ExO (.ref C) a) from I.hok a _ h1)
          refine ⟨oe, none, ?_⟩
          obtain ⟨oc, od, oda, osl⟩ := oe
          obtain ⟨g1, g2⟩ := q2
          dsimp only at g1 g2 q3
          subst g1 g2 q3
          exact ⟨q1, rfl, rfl, trivial⟩
      exact kia_one (kitx_exc T.cl T.ga T.gg T.ex T.ca T.cn T.ct T.cm) I.kIn J hk (fun z => nomatch z) fun tk => ⟨.bl b, H, I.kept (t' := tk) fun _ _ z => z, rfl, q⟩
theorem pe_ise {x : Str} {p px : Pos} {vx : V} {cv : Value} {tb : List Bool} (hI : EcI X.K ec) (ht : IsT X.K ec cv tb) (he : PE X e (tM (kx X ec) W m)) (hx : PE X (.Name x px) (tC vx)) (hv : ∀ u, RelV vx u → u = cv) (hg : Gl X "isinstance") (hm : X.mg "isinstance" = none)
    (h1 : starEach [e, .Name x px] X.env = (false, eval e X.env) :: starEach [.Name x px] X.env := by rfl) (h2 : starEach [.Name x px] X.env = (false, eval (.Name x px) X.env) :: starEach [] X.env := by rfl) (h3 : (backTo pos (starEach [.Name x px] X.env)).any (·.1) = false := by rfl) :
    PE X (.Call (.Name "isinstance" p) [e, .Name x px] [] pos) (tM (kx X ec) W (iseM tb m)) :=
  (pe_callB call_ise hg hm (by decide +kernel) (pa_cons he (pa_cons hx pa_nil h2) h1) (by decide) (by decide) h1 h3).imp fun σ H Q h => by
    obtain ⟨B, F, os, env, st, R, h⟩ := h
    refine ⟨B, F, os, env, st, R, Po.bind h ?_⟩
    intro v st1 y F1 os1 H1 ev e1 k1 r1 f1 p1
    cases ha : asErr v with
    | none => rw [ha] at p1; exact False.elim p1
    | some q =>
      obtain ⟨c, d⟩ := q
      rw [ha] at p1
      dsimp only at p1
      obtain ⟨z, hz, q⟩ := p1.of
      cases hb : tb[c]? with
      | none => rw [hb] at hz; cases hz
      | some b =>
        rw [hb] at hz
        cases hz
        rw [asErr_of ha] at r1
        rcases r1.err with ⟨a, e, C, f, w, ex, h3, h4, h5, h6⟩ | ⟨a, C, ex, h3, h4⟩
        · subst ex
          exact ⟨a, C, f, vx, cv, b, rfl, .inl ⟨e, f, w, k1.sub _ _ h4, k1.sub _ _ h5⟩, hI c _ _ h3, hv, ht c C f b h3 hb, q _ _ _ _ e1 k1 (.dat (.bl _)) Frs.dat⟩
        · subst ex
          exact ⟨a, C, _, vx, cv, b, rfl, .inr (k1.sub _ _ h4), hI c _ _ h3, hv, ht c C _ b h3 hb, q _ _ _ _ e1 k1 (.dat (.bl _)) Frs.dat⟩
end
end Pl

set_option Elab.async false
set_option linter.all false
set_option maxRecDepth 100000
set_option maxHeartbeats 4000000
namespace Pl
open PySem PySem.Spec PyProof.Rows L2 PySem.W PySem.Calls
section
variable {M : Model} {K : Frag} {A : Around} {E : Value → Shared → Prop} {s : Shared}
theorem forIn_pass {body : Value → PUnit → Sem (ForInStep PUnit)} {Q : PUnit → Shared → Prop} : ∀ (its : List Value), (∀ c ∈ its, ∀ {Q' : ForInStep PUnit → Shared → Prop}, Q' (.yield PUnit.unit) s → wpAny M A (body c PUnit.unit) Q' E s) → Q PUnit.unit s → wpAny M A (forIn its PUnit.unit body) Q E s
  | [], _, q => by
    rw [List.forIn_nil]
    exact wpAny_pure q
  | c :: r, hb, q => by
    rw [List.forIn_cons]
    exact wpAny_bind (hb c (by simp) (forIn_pass r (fun d hd => hb d (by simp [hd])) q))
theorem forIn_find {v : Value → Bool} {body : Value → (Option Bool × Unit) → Sem (ForInStep (Option Bool × Unit))} {Q : (Option Bool × Unit) → Shared → Prop} : ∀ (its : List Value),
    (∀ c ∈ its, ∀ {Q' : ForInStep (Option Bool × Unit) → Shared → Prop}, Q' (if v c = true then .done (some true, ()) else .yield (none, ())) s → wpAny M A (body c (none, ())) Q' E s) → Q (if its.any v = true then (some true, ()) else (none, ())) s → wpAny M A (forIn its (none, ()) body) Q E s
  | [], _, q => by
    rw [List.forIn_nil]
    exact wpAny_pure q
  | c :: r, hb, q => by
    rw [List.forIn_cons]
    refine wpAny_bind (hb c (by simp) ?_)
    cases hv : v c with
    | true =>
      rw [List.any_cons, hv] at q
      exact wpAny_pure q
    | false =>
      rw [List.any_cons, hv, Bool.false_or] at q
      exact forIn_find r (fun d hd => hb d (by simp [hd])) q
theorem exmAny_all {cls : Value} : ∀ {its : List Value} {b : Bool}, exmAny K cls its = some b → (∀ c ∈ its, exmOne K cls c = some ((exmOne K cls c).getD false)) ∧ b = its.any fun c => (exmOne K cls c).getD false
  | [], b, h => by
    cases h
    exact ⟨fun c hc => by simp at hc, rfl⟩
  | c :: r, b, h => by
    obtain ⟨b1, d1, h1, h2, rfl⟩ := exmAny_cons h
    obtain ⟨h3, rfl⟩ := exmAny_all h2
    refine ⟨fun c' hc' => ?_, by rw [List.any_cons, h1]; rfl⟩
    rcases List.mem_cons.mp hc' with rfl | hm
    · rw [h1]; rfl
    · exact h3 c' hm
theorem exm_many {cls : Value} {its : List Value} {tp e : Addr} {b : Bool} {h : Heap} (X : K.In h) (LT : Looks M h (typeOf (.ref e)) cls) (hp : ∃ n, h.get? tp = some { cls := .type "tuple", data := .seq its.toArray n }) (hx : exmAny K cls its = some b) :
    Looks M h (excMatches (.ref e) (.ref tp)) b := by
  intro A Q E s k₀ q
  obtain ⟨n, hp⟩ := hp
  obtain ⟨hh, g, d, tk, os⟩ := s
  have k : ∀ b o, h.get? b = some o → hh.get? b = some o := k₀
  have LT0 : Looks M h (isInstance (.ref tp) (.type "tuple")) true := ((Looks.ld hp).andThen .now).andThen (Looks.of_pure isSubtype_tuple_tuple)
  have LT := LT.keeps k
  have LT0 := LT0.keeps k
  have hp' := k _ _ hp
  obtain ⟨h1, rfl⟩ := exmAny_all hx
  unfold excMatches
  refine wpAny_bind (LT0.at ?_)
  dsimp only
  rw [if_pos rfl]
  refine wpAny_bind (wpAny_seqItems hp' rfl ?_)
  refine wpAny_bind (wpAny_pure ?_)
  show wpAny _ _ (forIn its PUnit.unit _ >>= _) _ _ _
  refine wpAny_bind (forIn_pass its (fun c hc {Q'} q' => ?_) ?_)
  · obtain ⟨e1, _⟩ := exm_cls (M := M) X (h1 c hc)
    refine wpAny_bind ((e1.keeps k).here ?_)
    exact wpAny_pure q'
  · refine wpAny_bind (LT.here ?_)
    refine wpAny_bind (forIn_find (v := fun c => (exmOne K cls c).getD false) its (fun c hc {Q'} q' => ?_) ?_)
    · obtain ⟨_, S1⟩ := exm_cls (M := M) X (h1 c hc)
      refine wpAny_bind ((S1.keeps k).here ?_)
      cases hv : (exmOne K cls c).getD false with
      | true => rw [hv] at q'; exact wpAny_pure q'
      | false => rw [hv] at q'; exact wpAny_pure q'
    · cases hv : its.any fun c => (exmOne K cls c).getD false with
      | true => rw [hv] at q; exact wpAny_pure q
      | false => rw [hv] at q; exact wpAny_pure q
end
/-! ### the test of an except clause -/
inductive NamesAll (X : Cx) : List Expr → List Value → Prop
  | nil : NamesAll X [] []
  | cons {x : Str} {p : Pos} {c : Value} {es : List Expr} {cs : List Value} : Names X x c → NamesAll X es cs → NamesAll X (.Name x p :: es) (c :: cs)
inductive Tst (X : Cx) : Expr → List Value → Prop
  | one {x : Str} {p : Pos} {c : Value} : Names X x c → Tst X (.Name x p) [c]
  | many {es : List Expr} {cs : List Value} {k : Nat} {p : Pos} : NamesAll X es cs → cs.length ≤ 100 → Tst X (.Tuple es k p) cs
section
variable {X : Cx} {a : Addr} {pn : List (Addr × Obj)} {pins : List (Addr × Obj)} {σ : L2.St} {H : Hp} {s : Shared} {E : Value → Shared → Prop}
theorem names_eval {x : Str} {p : Pos} {c : Value} (hn : Names X x c) (I : Inv (X.suite a pn) pins σ H s) {Q : Value → Shared → Prop} (q : Q c s) : wpAny (model X.prog X.w) (X.A.mark (some (.ref a))) (eval (.Name x p) X.env) Q E s := by
  obtain ⟨hg, hdbg, hm | ⟨hm, hv, hnn⟩⟩ := hn
  · exact ld_glob (X := X.suite a pn) I hg hm q hdbg
  · exact ld_blt (X := X.suite a pn) I hg hm hv q hnn hdbg
theorem names_all (I : Inv (X.suite a pn) pins σ H s) (pos : Pos) : ∀ {es : List Expr} {cs : List Value}, NamesAll X es cs → ∀ {Q : List Value → Shared → Prop}, Q cs s → wpAny (model X.prog X.w) (X.A.mark (some (.ref a))) (spliced (backTo pos (starEach es X.env))) Q E s := by
  intro es cs h
  induction h with
  | nil => intro Q q; exact Calls.spliced_nil q
  | @cons x p c es cs hn _ ih =>
    intro Q q
    show wpAny _ _ (spliced ((false, eval (.Name x p) X.env) :: backTo pos (starEach es X.env))) _ _ s
    exact Calls.spliced_cons (names_eval hn I (ih q))
theorem tst_ok {test : Expr} {cs : List Value} {cls : Value} {b : Bool} {oe : Obj} (T : Tst X test cs) (I : Inv (X.suite a pn) pins σ H s) (ho : s.heap.get? a = some oe) (hc : oe.cls = cls) (hb : exmAny X.K cls cs = some b) {Q : Bool → Shared → Prop}
    (q : ∀ h' tk, (∀ b o, s.heap.get? b = some o → h'.get? b = some o) → Q b { s with heap := h', toks := tk }) :
    wpAny (model X.prog X.w) (X.A.mark (some (.ref a))) (eval test X.env) (fun c s1 => wpAny (model X.prog X.w) (X.A.mark (some (.ref a))) (excMatches (.ref a) c) Q E s1) E s := by
  have LT : Looks (model X.prog X.w) s.heap (typeOf (.ref a)) cls := fun A Q E s k q => wpAny_typeOf_ref (k _ _ ho) (by rw [hc]; exact q)
  cases T with
  | @one x p c hn =>
    refine names_eval hn I ?_
    have h1 : exmOne X.K cls c = some b := by
      obtain ⟨b1, d1, h1, h2, rfl⟩ := exmAny_cons hb
      cases h2
      rw [Bool.or_false]
      exact h1
    exact (exm_one (M := model X.prog X.w) I.kIn LT h1).here (q s.heap s.toks fun _ _ z => z)
  | many hn hl =>
    refine wpAny_Tuple_spliced (names_all I _ hn ⟨Nat.le_trans hl (by rw [sizeLine_eq]; exact (by decide : 100 ≤ 16777216)), ?_⟩)
    have k : ∀ (o : Obj) b u, s.heap.get? b = some u → (s.heap.push o).get? b = some u := fun o b u z => Heap.get?_push_of_some _ z
    refine (exm_many (M := model X.prog X.w) (K := X.K) (I.kIn.keeps (k _)) (LT.keeps (k _)) ⟨_, Heap.get?_push_size _ rfl⟩ hb).here (q _ s.toks (k _))
end

/-! ### a def that may be called within an except suite too -/
structure FnC (P : Program) (w : World) (K : PySem.W.Frag) (mg : Str → Option Value) (base : Heap) (CX : CXT) (k : Nat) (f : Addr) (fd : FuncData) (ps : List Str) (sp : Sp) : Prop where
  len : ∀ {vs H Q E}, sp vs H Q E → vs.length = ps.length
  run : ∀ {A : Around} {o : Option Value} {outer : List PySem.Env} {s : Shared} {H : Hp} {args : Args} {us : List Value} {vs : List V} {Q : VK} {E : XK}, Room k A → A.guards = some [] → Env0 P w K mg base (A.mark o) outer s H →
    BindsTo s fd args (ps.zip us) → Vals vs us → sp vs H Q E → codeAny (model P w) (A.mark o) (.call (.ref f) args) (CR CX outer P w H s Q E) s
abbrev cxC (CX : CXT) (P : Program) (w : World) (K : PySem.W.Frag) (mg : Str → Option Value) (base : Heap) (N : List Str) (qual : Str) (scope : Scope) (f : Addr) (cd : Value) (A : Around) (outer : List PySem.Env) (s : Shared) (H : Hp) (E : XK) : Cx :=
  { cxOf CX P w K mg base N qual scope f cd A outer s H E with calm := false }
section
variable {P : Program} {w : World} {K : PySem.W.Frag} {mg : Str → Option Value} {base : Heap} {CX : CXT} {f : Addr} {fd : FuncData} {ps : List Str} {sp : Sp}
theorem FnC.g {k : Nat} (G : FnC P w K mg base CX k f fd ps sp) : FnG P w K mg base CX k f fd ps sp := ⟨G.len, fun hr hg e0 hb r q => G.run (o := none) hr hg e0 hb r q⟩
theorem cold_hot {N : List Str} {qual : Str} {sc : Scope} {cd : Value} {A : Around} {o : Option Value} {outer : List PySem.Env} {s s1 : Shared} {H : Hp} {E : XK} {σ : L2.St} (I : Inv (cxOf CX P w K mg base N qual sc f cd A outer s H E) [] σ H s1) :
    Inv (cxC CX P w K mg base N qual sc f cd (A.mark o) outer s H E) [] σ H s1 :=
  ⟨⟨I.ok.mod, I.ok.kind, I.ok.glob, I.ok.blt, I.ok.above, I.ok.inj, I.ok.has, I.ok.cab, (fun z => Bool.noConfusion (show false = true from z)), I.ok.frames, I.ok.stk, I.ok.exf, I.ok.bs, I.ok.bsz, I.ok.noex, I.ok.exfs, I.ok.funs, I.ok.frf⟩,
    I.os, I.bare, I.base, I.loc, I.cell, I.free, I.freeC, I.pin, I.hok, I.len⟩
theorem FnC.of {x qual : Str} {st : Stmt} {N : List Str} {k : Nat} (F : Fun K x qual st f fd) (S : FnScope N ps (defScope st)) (len : ∀ {vs H Q E}, sp vs H Q E → vs.length = ps.length)
    (hbody : ∀ (cdv : Value) (A : Around) (o : Option Value) (outer : List PySem.Env) (s : Shared) (H : Hp) (vs : List V) (Q : VK) (E : XK), Room k (A.deeper (envOfC qual (defScope st) s.heap.objs.size f cdv)) → A.guards = some [] → sp vs H Q E →
      ∃ t, PSs (cxC CX P w K mg base N qual (defScope st) f cdv (A.mark o) outer s H E) (defBody st) t ∧ t { nx := fun _ H' => Q .non H', rt := Q } (L2.start N vs) H) : FnC P w K mg base CX (k + 1) f fd ps sp := by
  obtain ⟨oc, od, kV, doc, pm, an, cdv, ct, osl, efd, lk, hcd⟩ := F.ex
  subst efd
  refine ⟨len, ?_⟩
  intro A o outer s H args us vs Q E hr hg e0 hb r hsp
  have e1 : Env0 P w K mg base A outer s H := ⟨e0.frames, e0.mod, e0.bs, e0.bsz, e0.funs, e0.frf, e0.hok, e0.bare⟩
  have up : ∀ b o, base.get? b = some o → s.heap.get? b = some o := fun b o z => (e0.bs b o z).1
  have inK := e0.mod.kin.keeps up
  have kinds : ∀ y ∈ ps.zip us, (defScope st).names.lookup y.1 = some .local ∨ ((defScope st).names.lookup y.1 = some .cell ∧ ((cellsFrom (s.heap.objs.size + 1) (defScope st).names []).lookup y.1).isSome = true) := by
    rintro ⟨n, v⟩ hy
    cases S.par n (List.of_mem_zip hy).1 with
    | inl q => exact Or.inl q
    | inr q => exact Or.inr ⟨q, PySem.W.cellsFrom_some _ _ _ (Or.inl q)⟩
  obtain ⟨t, ht, hq⟩ := hbody cdv A o outer s H vs Q E (hr.deeper _) hg hsp
  refine codeAny_call_function hr.depth (inK _ _ lk) rfl S.co S.gen rfl (PySem.W.codeRec_of inK hcd) (hb _ _ _ _ (wpAny_newFunctionEnv_cells S.kind kinds ?_))
  intro env he s1 x
  subst he
  refine ⟨(e0.mod.nolimit.keeps up).keeps x.toInCall.keep, codeAny_func (wpAny_mono (ht.run [] s1 _ H _ (cold_hot (inv_start S hr.hd e1 (len hsp) r x)) hq) ?_ fun _ _ z => z)⟩
  rintro fl s' hs
  cases fl with
  | next =>
    obtain ⟨σ', H', J, q⟩ := hs
    exact ⟨.non, H', J.os, J.bare, J.base, J.hok, rfl, q⟩
  | ret u =>
    obtain ⟨v, σ', H', J, rv, q⟩ := hs
    exact ⟨v, H', J.os, J.bare, J.base, J.hok, rv, q⟩
  | brk => exact hs.elim fun _ z => z.elim fun _ z => z.2.elim
  | cont => exact hs.elim fun _ z => z.elim fun _ z => z.2.elim
end
section
variable {P : Program} {w : World} {K : PySem.W.Frag} {mg : Str → Option Value} {base : Heap} {ec : List (Addr × Str)}
/-- a def that raises nothing, by its body -/
theorem fnC_ok {x qual : Str} {st : Stmt} {f : Addr} {fd : FuncData} {N ps : List Str} {k : Nat} {mb : SM} (F : Fun K x qual st f fd) (S : FnScope N ps (defScope st))
    (hbody : ∀ (cdv : Value) (A : Around) (o : Option Value) (outer : List PySem.Env) (s : Shared) (H : Hp) (E : XK), Room k (A.deeper (envOfC qual (defScope st) s.heap.objs.size f cdv)) → A.guards = some [] →
      PSs (cxC (L2.CX P w) P w K mg base N qual (defScope st) f cdv (A.mark o) outer s H E) (defBody st) (tS ⟨K, ec⟩ (WL E) mb)) :
    FnC P w K mg base (L2.CX P w) (k + 1) f fd ps (spOf ⟨K, ec⟩ ps.length (fnM N.length mb)) := by
  refine FnC.of F S (fun {vs H Q E} h => ?_) (fun cdv A o outer s H vs Q E hr hg h => ⟨_, hbody cdv A o outer s H E hr hg, ?_⟩)
  · obtain ⟨_, _, _, _, _, _, _, hl, _⟩ := h
    exact hl
  · obtain ⟨F0, os, vals, st0, k0, r0, n0, hl, h⟩ := h
    refine ⟨_, F0, os, _, st0, rel_start k0 r0 n0, ?_⟩
    unfold fnM at h
    cases hm : mb (envOf N.length vals) st0 <;> rw [hm] at h
    case nx env' st' => exact fun F1 os1 σ1 H1 R1 => h _ _ _ _ R1.bs R1.ok (.dat .non) Frs.dat
    case ret v st' => exact fun x F1 os1 H1 e k r f => h x F1 os1 H1 e k r f
    case exc c d env' st' => exact fun cls dd F1 os1 σ1 H1 R1 r => h cls dd F1 os1 H1 R1.bs R1.ok r
    all_goals exact False.elim h
end
section
variable {X : Cx} {ec : List (Addr × Str)} {W : WX} {e : Expr} {pos : Pos}
/-- its call -/
theorem pe_fnC {k n : Nat} {f : Addr} {fd : FuncData} {ps : List Str} {x : Str} {p : Pos} {es : List Expr} {fm : FM} {ra : AM} {A1 : Around} {o : Option Value} (hA : X.A = A1.mark o) (G : FnC X.prog X.w X.K X.mg X.base (L2.CX X.prog X.w) k f fd ps (spOf (kx X ec) n fm)) (hr : Room k A1) (hgd : A1.guards = some []) (hg : Gl X x) (hm : X.mg x = some (.ref f))
    (hk : PySem.W.keepIn X.K (.ref f) = true) (hb : Binds X.K fd ps []) (tk : Takes X W) (ha : PA X (e :: es) (tA (kx X ec) W ra)) (hdb : (x == ("__debug__" : Str)) = false := by decide) (he : starEach (e :: es) X.env = (false, eval e X.env) :: starEach es X.env := by rfl)
    (hpl : (backTo pos (starEach es X.env)).any (·.1) = false := by rfl) : PE X (.Call (.Name x p) (e :: es) [] pos) (tM (kx X ec) W (callF n fm ra)) := by
  refine ⟨?_⟩
  rintro pins s σ H Q I ⟨B, F, os, env, st, R, h⟩
  have h2 : tA (kx X ec) W ra σ H fun vs H1 => spOf (kx X ec) n fm vs H1 Q fun cls dd H' => W cls dd σ H' := by
    refine ⟨B, F, os, env, st, R, PoL.bind h ?_⟩
    intro vs st1 xs F1 os1 H1 ev e1 k1 r1 n1 p1
    by_cases hl : vs.length = n
    · rw [if_pos hl] at p1
      exact ⟨F1, os1, vs, st1, k1, r1, n1, r1.len.trans hl, p1.shift e1⟩
    · rw [if_neg hl] at p1
      exact p1.elim
  refine wpAny_Call_Name_kw (ld_glob I hg hm ?_ hdb)
  refine PySem.W.callWith_K (h₀ := X.base) I.ok.mod.kin hk (thn (ha.run pos pins s σ H _ I h2) ?_) he hpl
  rintro us s1 ⟨vs, H1, I1, r1, q⟩
  refine ⟨I1.kIn, ?_⟩
  have hlen : us.length = ps.length := by rw [← r1.length]; exact G.len q
  have hbt := hb s1 us I1.kIn (by rw [List.append_nil]; exact hlen)
  rw [List.append_nil] at hbt
  have e0 := I1.env0
  rw [hA] at e0
  refine wpAny_call ?_
  rw [hA]
  refine codeAny_mono (G.run hr hgd e0 hbt r1 q) fun r s' hq => ?_
  cases r with
  | error u => exact (L2.passAt tk σ) pins H1 s1 u s' I1 hq
  | ok fl =>
    cases fl with
    | ret u => exact I1.after hq
    | next => exact hq.elim
    | brk => exact hq.elim
    | cont => exact hq.elim
end
end Pl

set_option Elab.async false
set_option linter.all false
set_option maxRecDepth 100000
set_option maxHeartbeats 4000000
namespace Pl
open PySem PySem.Spec PyProof.Rows L2 PySem.W PySem.Calls

/-! ### try: body, except ..: suites -/
def goneM (i : Option Nat) (o : Os) : Os := match o with
  | .nx env st => .nx (match i with | none => env | some i => env.set i none) st
  | .brk env st => .brk (match i with | none => env | some i => env.set i none) st
  | .cnt env st => .cnt (match i with | none => env | some i => env.set i none) st
  | .ret v st => .ret v st
  | .exc _ _ _ _ => .stk
  | .stk => .stk
def hdM : List (List Bool × Option Nat × SM) → Nat → D → Env → List Cn → Os
  | [], c, d, env, st => .exc c d env st
  | (tb, i, ms) :: r, c, d, env, st => match tb[c]? with
    | some true => goneM i (ms (match i with | none => env | some i => env.set i (some (.dat (errD c d)))) st)
    | some false => hdM r c d env st
    | none => .stk
def tryM (mb : SM) (hs : List (List Bool × Option Nat × SM)) : SM := fun env st => match mb env st with
  | .exc c d env' st' => hdM hs c d env' st'
  | o => o
abbrev WN : WX := fun _ _ _ _ => False
/-- which classes a clause takes -/
def TbOk (K : Frag) (ec : List (Addr × Str)) (cs : List Value) (tb : List Bool) : Prop := ∀ (c : Nat) (C : Addr) (f : Str) (b : Bool), ec[c]? = some (C, f) → tb[c]? = some b → exmAny K (.ref C) cs = some b
inductive HdsE (X : Cx) (ec : List (Addr × Str)) : List ExceptHandler → List (List Bool × Option Nat × SM) → Prop
  | nil : HdsE X ec [] []
  | plain {test : Expr} {cs : List Value} {tb : List Bool} {b₀ : Stmt} {suite : List Stmt} {pos' : Pos} {ms : SM} {hds l} (T : Tst X test cs) (B : TbOk X.K ec cs tb) (hsu : ∀ (a : Addr) (pn : List (Addr × Obj)), PSs (X.suite a pn) (b₀ :: suite) (tS (kx X ec) WN ms)) (r : HdsE X ec hds l) :
      HdsE X ec (.ExceptHandler (some test) none (b₀ :: suite) pos' :: hds) ((tb, none, ms) :: l)
  | named {test : Expr} {cs : List Value} {tb : List Bool} {n : Str} {i : Nat} {b₀ : Stmt} {suite : List Stmt} {pos' : Pos} {ms : SM} {hds l} (T : Tst X test cs) (B : TbOk X.K ec cs tb) (hi : X.N[i]? = some n) (hl : X.env.kindOf n = some .local)
      (hsu : ∀ (a : Addr) (pn : List (Addr × Obj)), PSs (X.suite a pn) (b₀ :: suite) (tS (kx X ec) WN ms)) (r : HdsE X ec hds l) :
      HdsE X ec (.ExceptHandler (some test) (some n) (b₀ :: suite) pos' :: hds) ((tb, some i, ms) :: l)

/-- an object that stands untracked is tracked -/
theorem put1 {X : Cx} {pins : List (Addr × Obj)} {σ : L2.St} {H : Hp} {s : Shared} {a : Addr} {u : HO} (I : Inv X pins σ H s) (hex : X.ex = []) (h0 : X.s_0.heap.get? a = none) (na : H a = none) (nL : a ≠ X.env.locals) (nC : ∀ x c, X.env.cells.lookup x = some c → c ≠ a)
    (np : ∀ p ∈ X.pn ++ pins, p.1 ≠ a) (new : ObjOk X.prog X.w (upd H a u) s.heap a u) : Inv X pins σ (upd H a u) s := by
  have old : ∀ b o, H b = some o → upd H a u b = some o := fun b o q => by
    rw [upd_ne (fun z => by rw [z, na] at q; cases q)]
    exact q
  have ne0 : ∀ b o, X.s_0.heap.get? b = some o → b ≠ a := fun b o q z => by rw [z, h0] at q; cases q
  refine ⟨I.ok, I.os, I.bare, ⟨I.base.keep, I.base.slot, fun b o q n hx => ?_, I.base.there, fun b xs q => old _ _ (I.base.tups b xs q), fun b o xs q => old _ _ (I.base.frzs b o xs q), fun b ps q => ?_⟩, I.loc, I.cell, ?_, fun x c e => ?_, fun p hp => ?_, fun b o q => ?_, I.len⟩
  · rw [upd_ne (ne0 b o q)]
    exact I.base.free b o q n hx
  · obtain ⟨m, e⟩ := I.base.tbls b ps q
    exact ⟨m, old _ _ e⟩
  · rw [upd_ne (Ne.symm nL)]
    exact I.free
  · rw [upd_ne (nC x c e)]
    exact I.freeC x c e
  · obtain ⟨h1, h2, h3, h4, h5⟩ := I.pin p hp
    exact ⟨h1, by rw [upd_ne (np p hp)]; exact h2, h3, h4, h5⟩
  · by_cases hb : b = a
    · subst hb
      rw [upd_same] at q
      cases q
      exact new
    · rw [upd_ne hb] at q
      exact (I.hok b o q).stay (fun c u _ r => r) (fun c r => old _ _ r) fun c xs r => old _ _ r
theorem erO_any {P : Program} {w : World} {H : Hp} {h : Heap} {a d : Addr} {cls : Value} {oe : Obj} {vs : Array Value} (he : h.get? a = some oe) (hz : Zc cls (some d) oe) (hd : oe.data = .fields vs) : ObjOk P w H h a (ErO cls d a) := by
  refine ⟨⟨oe, vs, he, hz, hd⟩, ⟨_, he⟩, ?_⟩
  rintro h1 h2 ⟨oe, vs, q, z, dd⟩ k
  exact ⟨oe, vs, k _ q, z, dd⟩
theorem fly_keeps {B h h' : Heap} {l : List PySem.Env} {a : Addr} {Z : Obj → Prop} (f : HandSPX.FlyingZ B l a Z h) (k : ∀ b o, h.get? b = some o → h'.get? b = some o) : HandSPX.FlyingZ B l a Z h' := by
  obtain ⟨h1, h2, h3, oe, vs, T, oT, ts, e1, e2, e3, e4, e5, e6, e7, e8, e9⟩ := f
  exact ⟨fun b o e => k _ _ (h1 b o e), h2, h3.of_keeps fun b o e _ => ⟨o, k _ _ e, rfl⟩, oe, vs, T, oT, ts, k _ _ e1, e2, e3, e4, e5, e6, k _ _ e7, e8, e9⟩
theorem toSuite {X : Cx} {pins : List (Addr × Obj)} {σ : L2.St} {H : Hp} {s : Shared} (I : Inv X pins σ H s) (a : Addr) : Inv (X.suite a (X.pn ++ pins)) [] σ H s :=
  ⟨I.ok.suite _ _, I.os, I.bare, I.base, I.loc, I.cell, I.free, I.freeC, fun p hp => I.pin p (by rw [List.append_nil] at hp; exact hp), I.hok, I.len⟩
theorem ofSuite {X : Cx} {pins pn' : List (Addr × Obj)} {σ : L2.St} {H : Hp} {s : Shared} {a : Addr} (I : Inv (X.suite a (X.pn ++ pins)) pn' σ H s) (ok : X.Ok) : Inv X pins σ H s :=
  ⟨ok, I.os, I.bare, I.base, I.loc, I.cell, I.free, I.freeC, fun p hp => I.pin p (List.mem_append_left _ hp), I.hok, I.len⟩
/-- what a try's end is, with the slot gone -/
def endsE (X : Kx) (W : WX) (B : Bs) (i : Option Nat) (E : Ends) : Ends := { nx := fun σ H => E.nx (match i with | none => σ | some i => σ.set i none) H, rt := E.rt, bk := fun σ H => E.bk (match i with | none => σ | some i => σ.set i none) H, ct := fun σ H => E.ct (match i with | none => σ | some i => σ.set i none) H }
theorem gone_end {X : Kx} {W : WX} {B : Bs} {i : Option Nat} {o : Os} {E : Ends} (h : PoS X W B (goneM i o) E) : PoS X WN B o (endsE X W B i E) := by
  cases o with
  | stk => exact h
  | exc c d env st => exact False.elim h
  | ret v st => exact h
  | nx env st =>
    cases i with
    | none => exact h
    | some i => exact fun F os σ H R => h F os _ H (R.unset i)
  | brk env st =>
    cases i with
    | none => exact h
    | some i => exact fun F os σ H R => h F os _ H (R.unset i)
  | cnt env st =>
    cases i with
    | none => exact h
    | some i => exact fun F os σ H R => h F os _ H (R.unset i)

section
variable {X : Cx} {ec : List (Addr × Str)} {W : WX} {pos : Pos}
theorem ps_ty {body : List Stmt} {h₀ : ExceptHandler} {hds : List ExceptHandler} {l : List (List Bool × Option Nat × SM)} {mb : SM} (hs : X.stack = X.env :: X.outer) (hf : X.env.frame = some X.env.locals) (hex : X.ex = []) (hN : X.N.Nodup) (tk : Takes X W)
    (hb : ∀ (W : WX) (pn : List (Addr × Obj)) (xe : Value → Shared → Prop), Takes (X.tr pn xe) W → PassesOwn (model X.prog X.w) X.A X.env xe → PSs (X.tr pn xe) body (tS (kx X ec) W mb)) (hh : HdsE X ec (h₀ :: hds) l) :
    PS X (.Try body (h₀ :: hds) [] [] pos) (tS (kx X ec) W (tryM mb l)) := by
  refine ⟨fun pins s σ H D I h => ?_⟩
  obtain ⟨B, F, os, env, st, R, hP⟩ := h
  have ok := I.ok
  have hfr : X.A.frames = some (X.env :: X.outer) := by rw [ok.frames, hs]
  obtain ⟨W', hW⟩ : ∃ W' : WX, W' = fun cls dd σ' H' => ∃ F' os' env' st' c d, Rel (kx X ec) B F' os' σ' H' env' st' ∧ ErD (kx X ec) F' cls dd c d ∧ PoS (kx X ec) W B (hdM l c d env' st') D := ⟨_, rfl⟩
  have hbody : tS (kx X ec) W' mb D σ H := by
    refine ⟨B, F, os, env, st, R, ?_⟩
    unfold tryM at hP
    cases hm : mb env st with
    | exc c d env' st' =>
      rw [hm] at hP
      intro cls dd F1 os1 σ1 H1 R1 r1
      rw [hW]
      exact ⟨F1, os1, _, _, c, d, R1, r1, hP⟩
    | stk => rw [hm] at hP; exact hP
    | nx env' st' => rw [hm] at hP; exact hP
    | ret v st' => rw [hm] at hP; exact hP
    | brk env' st' => rw [hm] at hP; exact hP
    | cnt env' st' => rw [hm] at hP; exact hP
  refine wpAny_Try_except ?_
  obtain ⟨xe, hxe⟩ : ∃ xe : Value → Shared → Prop, xe = fun e s₁ => wpAny (model X.prog X.w) X.A (noteFrame e X.env) (fun _ s₂ => wpAny (model X.prog X.w) X.A (setFlight e none) (fun _ s₃ =>
    wpAny (model X.prog X.w) X.A (handleBy e X.env (h₀ :: hds)) (SP X pins D) X.xe s₃) X.xe s₂) X.xe s₁ := ⟨_, rfl⟩
  have hpo : PassesOwn (model X.prog X.w) X.A X.env xe := by
    rw [hxe]
    exact PassesOwn.looking
  have htk : Takes (X.tr (X.pn ++ pins) xe) W' := by
    intro u s' xx
    obtain ⟨a, G, sI, pins', σ', H', cls, d, rfl, J', nb, up, sky, na, oss, ag, w⟩ := xx
    have J : Inv X pins σ' H' sI := J'.ofTry ok
    have sky' : Sky G (X.env :: X.outer) a (Zc cls d) X.env.locals s'.heap := by rw [← hs]; exact sky
    rw [hxe]
    show wpAny (model X.prog X.w) X.A (noteFrame (.ref a) X.env) _ _ _
    refine Sky.land Zc.steady hfr hf sky' fun h3 fl3 up3 => ?_
    rw [hW] at w
    obtain ⟨F', os', env', st', c, dt, R', er, hP'⟩ := w
    obtain ⟨C, f, ea, v, hec, ecls, edd, hF, hD⟩ := er
    subst ecls edd
    have nofr : ∀ {h : Heap}, HandSPX.FlyingZ G (X.env :: X.outer) a (Zc (.ref C) (some ea)) h → a ∉ frs (X.env :: X.outer) := fun {h} fl hm => by
      obtain ⟨oe, vs, e1, _, e3⟩ := fl.there
      obtain ⟨_, o', e', hnf⟩ := fl.2.2.1.mem hm
      rw [e1] at e'; cases e'
      exact hnf _ e3
    have nfr := nofr fl3
    have nL : a ≠ X.env.locals := fun z => nfr (List.mem_filterMap.mpr ⟨X.env, List.mem_cons_self, by rw [hf, z]⟩)
    have aI : sI.heap.get? a = none := by
      cases q : sI.heap.get? a with
      | none => rfl
      | some o =>
        have z := nb a o q (by rw [show (X.tr (X.pn ++ pins) xe).stack = X.env :: X.outer from hs]; exact nfr)
        rw [fl3.2.1] at z; cases z
    have a0 : X.s_0.heap.get? a = none := by
      cases q : X.s_0.heap.get? a with
      | none => rfl
      | some o =>
        obtain ⟨o', z⟩ := J.base.there a o q (by rw [hex]; simp)
        rw [aI] at z; cases z
    have ap : ∀ p ∈ X.pn ++ pins, p.1 ≠ a := fun p hp z => by
      have q := (J.pin p hp).1
      rw [z, aI] at q; cases q
    have land : ∀ {sc : Shared}, HandSPX.FlyingZ G (X.env :: X.outer) a (Zc (.ref C) (some ea)) sc.heap → sI.heap.UpToSlots sc.heap → sc.os = sI.os → AllBare sc.gens → Inv X pins σ' H' sc := fun {sc} fl u o g => J.landed nb fl.1 u o g
    -- the state in which a suite begins
    have begin_ : ∀ {sc : Shared}, HandSPX.FlyingZ G (X.env :: X.outer) a (Zc (.ref C) (some ea)) sc.heap → sI.heap.UpToSlots sc.heap → sc.os = sI.os → AllBare sc.gens → Inv X pins σ' (upd H' a (ErO (.ref C) ea a)) sc := fun {sc} fl u o g => by
      obtain ⟨oe, vs, e1, e2, e3⟩ := fl.there
      have J4 := land fl u o g
      refine put1 J4 hex a0 na nL (fun x c e z => ?_) ap (erO_any e1 e2 e3)
      obtain ⟨v, oc, q1, q2⟩ := J4.cell x c e
      rw [z, e1] at q1
      cases q1
      rw [e3] at q2
      cases q2
    have R2 : Rel (kx X ec) B (upd F' a (ErO (.ref C) ea a)) os' σ' (upd H' a (ErO (.ref C) ea a)) env' st' := R'.ext (Ext.newF R'.ok na) (StOk.newF R'.ok na)
    have eaN : ea ≠ a := fun z => by
      have q := R'.ok.sub _ _ hF
      rw [z, na] at q; cases q
    have VE : VR (kx X ec) (upd F' a (ErO (.ref C) ea a)) os' (upd H' a (ErO (.ref C) ea a)) (.ref a) (.dat (errD c dt)) := .dat (.err hec upd_same (by rw [upd_ne eaN]; exact hF) (Dr.mono (same_upd (StOk.free R'.ok na).2) _ _ hD))
    have go : ∀ {hds' : List ExceptHandler} {l' : List (List Bool × Option Nat × SM)}, HdsE X ec hds' l' → ∀ sc : Shared, HandSPX.FlyingZ G (X.env :: X.outer) a (Zc (.ref C) (some ea)) sc.heap → sI.heap.UpToSlots sc.heap → sc.os = sI.os → AllBare sc.gens → PoS (kx X ec) W B (hdM l' c dt env' st') D →
        wpAny (model X.prog X.w) X.A (handleBy (.ref a) X.env hds') (SP X pins D) X.xe sc := by
      intro hds' l' hk
      induction hk with
      | nil =>
        intro sc fl u o g hp
        refine wpAny_handleBy_nil ?_
        obtain ⟨z1, z2, z3, oe, vs, T, oT, ts', he, hz, hd, h1, hr⟩ := id fl
        unfold PySem.passOn
        refine wpAny_bind (wpAny_field he hd h1 ?_)
        rw [if_neg (show ¬ ((Value.ref T == Value.none) = true) from by simp)]
        have fin : wpAny (model X.prog X.w) X.A (setFlight (.ref a) X.env.frame) (fun _ s4 => wpAny (model X.prog X.w) X.A (throw (.ref a) : Sem Flow) (SP X pins D) X.xe s4) X.xe sc := by
          rw [hf]
          refine HandSPX.setFlight_upZ fl fun h4 hh4 up4 => wpAny_throw (tk _ _ ?_)
          exact ⟨a, G, sI, pins, σ', H', .ref C, some ea, rfl, J, nb, u.trans up4, .inr (.inr (by rw [hs]; exact hh4)), na, o, g, hp _ _ F' os' σ' H' R' ⟨C, f, ea, v, hec, rfl, rfl, hF, hD⟩⟩
        first
          | exact wpAny_bind (wpAny_pure (wpAny_bind fin))
          | exact wpAny_bind fin
      | @plain test cs tb b₀ suite pos' ms hds2 l2 T TB hsu r ih =>
        intro sc fl u o g hp
        obtain ⟨oe, vs, e1, e2, e3⟩ := fl.there
        unfold hdM at hp
        cases ht : tb[c]? with
        | none => rw [ht] at hp; exact hp.elim
        | some b =>
          rw [ht] at hp
          refine wpAny_handleBy_cons (codeAny_handlers_test ?_) (by intro q; cases q)
          refine tst_ok (b := b) T (toSuite (land fl u o g) a) e1 e2.1 (TB c C f b hec ht) fun h' tkk kk => ?_
          have fl' := fly_keeps fl kk
          have u' : sI.heap.UpToSlots h' := u.trans (Heap.UpToSlots.of_keeps kk)
          cases b with
          | true =>
            refine codeAny_handlers_suite ?_
            refine HandSPX.lands_againZ fl' fun h4 fl4 up4 => ?_
            have J5 := begin_ (sc := { sc with heap := h4, toks := tkk }) fl4 (u'.trans up4) o g
            refine wpAny_mono ((hsu a (X.pn ++ pins)).run [] _ _ _ (endsE (kx X ec) W B none D) (toSuite J5 a) ⟨B, _, os', env', st', R2, gone_end hp⟩) (fun fl s6 hsp => ?_) (fun _ _ z => False.elim z)
            cases fl with
            | next =>
              obtain ⟨σ6, H6, S6, q6⟩ := hsp
              exact ⟨_, _, ofSuite S6 ok, q6⟩
            | brk =>
              obtain ⟨σ6, H6, S6, q6⟩ := hsp
              exact ⟨_, _, ofSuite S6 ok, q6⟩
            | cont =>
              obtain ⟨σ6, H6, S6, q6⟩ := hsp
              exact ⟨_, _, ofSuite S6 ok, q6⟩
            | ret u =>
              obtain ⟨v6, σ6, H6, S6, r6, q6⟩ := hsp
              exact ⟨_, _, _, ofSuite S6 ok, r6, q6⟩
          | false => exact ih { sc with heap := h', toks := tkk } fl' u' o g hp
      | @named test cs tb n i b₀ suite pos' ms hds2 l2 T TB hi hln hsu r ih =>
        intro sc fl u o g hp
        obtain ⟨oe, vs, e1, e2, e3⟩ := fl.there
        unfold hdM at hp
        cases ht : tb[c]? with
        | none => rw [ht] at hp; exact hp.elim
        | some b =>
          rw [ht] at hp
          refine wpAny_handleBy_cons (codeAny_handlers_test ?_) (by intro q; cases q)
          refine tst_ok (b := b) T (toSuite (land fl u o g) a) e1 e2.1 (TB c C f b hec ht) fun h' tkk kk => ?_
          have fl' := fly_keeps fl kk
          have u' : sI.heap.UpToSlots h' := u.trans (Heap.UpToSlots.of_keeps kk)
          cases b with
          | true =>
            refine codeAny_handlers_suite_as ?_
            refine HandSPX.lands_againZ fl' fun h4 fl4 up4 => ?_
            have J5 := begin_ (sc := { sc with heap := h4, toks := tkk }) fl4 (u'.trans up4) o g
            refine store_ok (X := X.suite a (X.pn ++ pins)) (v := .ref a) (toSuite J5 a) hN hi (.inl hln) rfl (fun s5 S5 => ?_) (.inr hln)
            have R3 := R2.set (i := i) VE rfl (fun c p h => nomatch h)
            refine wpAny_mono ((hsu a (X.pn ++ pins)).run [] s5 _ _ (endsE (kx X ec) W B (some i) D) S5 ⟨B, _, os', _, st', R3, gone_end hp⟩) (fun fl s6 hsp => ?_) (fun _ _ z => False.elim z)
            have end_ : ∀ {σ6 : L2.St} {H6 : Hp} {Q : Shared → Prop}, Inv (X.suite a (X.pn ++ pins)) [] σ6 H6 s6 → (∀ s7, Inv X pins (σ6.set i none) H6 s7 → Q s7) →
                wpAny (model X.prog X.w) X.A (do bindName X.env n .none; unbindBehindTheSuite X.env n pos') (fun _ s7 => Q s7) X.xe s6 := fun {σ6 H6 Q} S6 hq => gone_ok (ofSuite S6 ok) hN hi hln hq
            cases fl with
            | next =>
              obtain ⟨σ6, H6, S6, q6⟩ := hsp
              exact end_ S6 fun s7 J7 => ⟨_, _, J7, q6⟩
            | brk =>
              obtain ⟨σ6, H6, S6, q6⟩ := hsp
              exact end_ S6 fun s7 J7 => ⟨_, _, J7, q6⟩
            | cont =>
              obtain ⟨σ6, H6, S6, q6⟩ := hsp
              exact end_ S6 fun s7 J7 => ⟨_, _, J7, q6⟩
            | ret u =>
              obtain ⟨v6, σ6, H6, S6, r6, q6⟩ := hsp
              exact end_ S6 fun s7 J7 => ⟨_, _, _, J7, r6, q6⟩
          | false => exact ih { sc with heap := h', toks := tkk } fl' u' o g hp
    exact go hh { s' with heap := h3 } fl3 (up.trans up3) oss ag hP'
  refine wpAny_mono ((hb W' (X.pn ++ pins) xe htk hpo).run [] s σ H D (I.toTry _) hbody) (fun f s1 hsp => ?_) (fun e s1 he => by rw [hxe] at he; exact he)
  cases f with
  | next =>
    obtain ⟨σ', H', J', q⟩ := hsp
    exact wpAny_execs_nil ⟨σ', H', J'.ofTry ok, q⟩
  | brk =>
    obtain ⟨σ', H', J', q⟩ := hsp
    exact ⟨σ', H', J'.ofTry ok, q⟩
  | cont =>
    obtain ⟨σ', H', J', q⟩ := hsp
    exact ⟨σ', H', J'.ofTry ok, q⟩
  | ret u =>
    obtain ⟨v, σ', H', J', r, q⟩ := hsp
    exact ⟨v, σ', H', J'.ofTry ok, r, q⟩
end
end Pl

set_option Elab.async false
set_option linter.all false
set_option maxRecDepth 100000
set_option maxHeartbeats 4000000
namespace Pl
open PySem PySem.Spec PyProof.Rows L2

/-! ### enumerate, the empty dict -/
def enumD : Nat → List D → List D
  | _, [] => []
  | n, d :: ds => .tuple [.int n, d] :: enumD (n + 1) ds
theorem enumD_len : ∀ (ds : List D) (n : Nat), (enumD n ds).length = ds.length
  | [], _ => rfl
  | d :: ds, n => by simp [enumD, enumD_len ds]
theorem enumD_get : ∀ (ds : List D) (n i : Nat) (d : D), ds[i]? = some d → (enumD n ds)[i]? = some (.tuple [.int ((n + i : Nat) : Int), d])
  | [], _, _, _, h => by simp at h
  | d :: ds, n, 0, e, h => by
    simp at h
    subst h
    simp [enumD]
  | d :: ds, n, i + 1, e, h => by
    have := enumD_get ds (n + 1) i e (by simpa using h)
    simp only [enumD, List.getElem?_cons_succ]
    rw [this]
    congr 4
    omega
section
variable {X : Kx} {blk : Bool} {F H : Hp} {os : List Addr} {st : List Cn} {p : Addr} {xs : List V} {ds : List D}
theorem itok_enum (k : StOk X F os H st) (hp : SqL X.K F p xs) (r : Drs X F xs ds) : ItOk X blk F os H (Ite X.K p) (enumD 0 ds) := by
  have w := @walk_enum X.K p xs
  rw [r.len, ← enumD_len ds 0] at w
  refine ⟨_, _, w, fun H' h => Same.sqL (stays_same k h) hp, ?_⟩
  intro i H1 x H2 hi hs y
  obtain ⟨T, a, b, e1, e2, e3, e4, e5⟩ := y
  cases e4
  obtain ⟨d, hd, rd⟩ := r.get e5
  refine ⟨_, enumD_get ds 0 i d hd, .inr ⟨T, _, b, _, d, e1, e2, e3, rfl, ?_, rd⟩⟩
  rw [Nat.zero_add]
  exact .int _
end
section
variable {X : Cx} {ec : List (Addr × Str)} {W : WX} {blk : Bool} {e : Expr} {m : EM} {pos : Pos}
theorem pe_d0 : PE X (.Dict [] [] pos) (tM (kx X ec) W fun _ st => .ok (.fr (.dk [])) st) := pe_dnewK.imp fun σ H Q h => by
  obtain ⟨B, F, os, env, st, R, h⟩ := h
  intro p hp
  exact h _ _ _ _ (Ext.newO R.ok hp) (R.ok.newO hp) (.fr (R.ok.free hp).2 (R.ok.free hp).1 upd_same (.dk .nil)) (Frs.new hp)
def enuI (r : AM) : IM := fun env st => (r env st).bindI fun vs st1 => match vs with
  | [.dat (.list ds)] => .ok (enumD 0 ds) st1
  | [.scr ds] => .ok (enumD 0 ds) st1
  | _ => .stk
theorem pi_en {r : AM} {p tpos : Pos} {elts : List Expr} {kk : Nat} (hg : Gl X "enumerate") (hm : X.mg "enumerate" = none) (ha : PA X [e] (tA (kx X ec) W r)) (hs : starEach [e] X.env = [(false, eval e X.env)] := by rfl) :
    PI X (.Tuple elts kk tpos) (.Call (.Name "enumerate" p) [e] [] pos) (tI (kx X ec) blk W (enuI r)) :=
  (pi_enum hg hm ha hs).imp fun σ H R h => by
    obtain ⟨B, F, os, env, st, Rl, h⟩ := h
    refine ⟨B, F, os, env, st, Rl, PoI.bindL h ?_⟩
    intro v st1 x F1 os1 H1 ev e1 k1 r1 p1
    split at p1
    · rename_i ds
      cases r1 with
      | cons a b =>
        cases b
        cases a with
        | dat a =>
          cases a with
          | lst h1 h2 => exact ⟨_, _, rfl, SqL.of (k1.sub _ _ h1), p1 _ _ _ _ e1 k1 (itok_enum k1 (SqL.of h1) h2)⟩
    · rename_i ds
      cases r1 with
      | cons a b =>
        cases b
        cases a with
        | scr h1 h2 => exact ⟨_, _, rfl, Same.sqL k1.sub h1, p1 _ _ _ _ e1 k1 (itok_enum k1 h1 h2)⟩
    · exact False.elim p1
end
end Pl

set_option Elab.async false
set_option linter.all false
set_option maxRecDepth 100000
set_option maxHeartbeats 4000000
namespace Pl
open PySem PySem.Spec PyProof.Rows L2 PySem.W

/-! ### the defs of a text, by their names -/
structure Dn (K : Frag) (mg : Str → Option Value) (x : Str) (st : Stmt) : Prop where
  ex : ∃ (f : Addr) (fd : FuncData), Fun K x x st f fd ∧ mg x = some (.ref f)
theorem dn_mk {K : Frag} {mg : Str → Option Value} {h : Heap} {x : Str} {st : Stmt} {f : Addr} {oc : Value} {od an : Option Addr} {osl : Array (Option Value)} {kV doc pm cdv ct : Value} (X : K.In h) (G : h.Ns mainGlobals mg) (a : nsIn K mainGlobals x = some (some (.ref f)))
    (l : K.lookup f = some ⟨oc, od, .func (fnOf x x (defArgs st) (defBody st) (defScope st) .none kV doc pm an cdv ct), osl⟩) (c : codeIn K cdv x = true) (k : keepIn K (.ref f) = true) : Dn K mg x st := ⟨f, _, fun_mk l c k, mg_of X G a⟩
/-- a def that may be called: cold -/
structure Cal (P : Program) (w : World) (K : Frag) (mg : Str → Option Value) (base : Heap) (ec : List (Addr × Str)) (k n : Nat) (x : Str) (fm : FM) : Prop where
  ex : ∃ (f : Addr) (fd : FuncData) (ps : List Str), FnG P w K mg base (L2.CX P w) k f fd ps (spOf ⟨K, ec⟩ n fm) ∧ mg x = some (.ref f) ∧ keepIn K (.ref f) = true ∧ Binds K fd ps []
structure CalC (P : Program) (w : World) (K : Frag) (mg : Str → Option Value) (base : Heap) (ec : List (Addr × Str)) (k n : Nat) (x : Str) (fm : FM) : Prop where
  ex : ∃ (f : Addr) (fd : FuncData) (ps : List Str), FnC P w K mg base (L2.CX P w) k f fd ps (spOf ⟨K, ec⟩ n fm) ∧ mg x = some (.ref f) ∧ keepIn K (.ref f) = true ∧ Binds K fd ps []
theorem CalC.g {P : Program} {w : World} {K : Frag} {mg : Str → Option Value} {base : Heap} {ec : List (Addr × Str)} {k n : Nat} {x : Str} {fm : FM} (C : CalC P w K mg base ec k n x fm) : Cal P w K mg base ec k n x fm := by
  obtain ⟨f, fd, ps, G, a, b, c⟩ := C.ex
  exact ⟨f, fd, ps, G.g, a, b, c⟩
section
variable {X : Cx} {ec : List (Addr × Str)} {W : WX} {e : Expr} {pos : Pos}
theorem pe_cal {k n : Nat} {x : Str} {p : Pos} {es : List Expr} {fm : FM} {ra : AM} (C : Cal X.prog X.w X.K X.mg X.base ec k n x fm) (hr : Room k X.A) (hgd : X.A.guards = some []) (hg : Gl X x) (tk : Takes X W) (ha : PA X (e :: es) (tA (kx X ec) W ra)) (hdb : (x == ("__debug__" : Str)) = false := by decide)
    (he : starEach (e :: es) X.env = (false, eval e X.env) :: starEach es X.env := by rfl) (hpl : (backTo pos (starEach es X.env)).any (·.1) = false := by rfl) : PE X (.Call (.Name x p) (e :: es) [] pos) (tM (kx X ec) W (callF n fm ra)) := by
  obtain ⟨f, fd, ps, G, a, b, c⟩ := C.ex
  exact pe_fn G hr hgd hg a b c tk ha hdb he hpl
theorem pe_calC {k n : Nat} {x : Str} {p : Pos} {es : List Expr} {fm : FM} {ra : AM} {A1 : Around} {o : Option Value} (hA : X.A = A1.mark o) (C : CalC X.prog X.w X.K X.mg X.base ec k n x fm) (hr : Room k A1) (hgd : A1.guards = some []) (hg : Gl X x) (tk : Takes X W) (ha : PA X (e :: es) (tA (kx X ec) W ra)) (hdb : (x == ("__debug__" : Str)) = false := by decide)
    (he : starEach (e :: es) X.env = (false, eval e X.env) :: starEach es X.env := by rfl) (hpl : (backTo pos (starEach es X.env)).any (·.1) = false := by rfl) : PE X (.Call (.Name x p) (e :: es) [] pos) (tM (kx X ec) W (callF n fm ra)) := by
  obtain ⟨f, fd, ps, G, a, b, c⟩ := C.ex
  exact pe_fnC hA G hr hgd hg a b c tk ha hdb he hpl
end
section
variable {P : Program} {w : World} {K : Frag} {mg : Str → Option Value} {base : Heap} {ec : List (Addr × Str)}
theorem cal_of {x : Str} {ps : List Str} {st : Stmt} {N : List Str} {k : Nat} {mb : SM} (d : Dn K mg x st) (S : FnScope N ps (defScope st)) (hb : ∀ (kV doc pm : Value) (an : Option Addr) (cdv ct : Value) (us : List Value), us.length = ps.length → bindArgs (fnOf x x (defArgs st) (defBody st) (defScope st) .none kV doc pm an cdv ct) ⟨us, []⟩ = pure (ps.zip us))
    (hbody : ∀ (f : Addr) (cdv : Value) (A : Around) (outer : List PySem.Env) (s : Shared) (H : Hp) (E : XK), Room k (A.deeper (envOfC x (defScope st) s.heap.objs.size f cdv)) → A.guards = some [] →
      PSs (cxOf (L2.CX P w) P w K mg base N x (defScope st) f cdv A outer s H E) (defBody st) (tS ⟨K, ec⟩ (WL E) mb)) : Cal P w K mg base ec (k + 1) ps.length x (fnM N.length mb) := by
  obtain ⟨f, fd, F, hm⟩ := d.ex
  exact ⟨f, fd, ps, fn_ok F S (hbody f), hm, F.kp, F.binds hb⟩
theorem calC_of {x : Str} {ps : List Str} {st : Stmt} {N : List Str} {k : Nat} {mb : SM} (d : Dn K mg x st) (S : FnScope N ps (defScope st)) (hb : ∀ (kV doc pm : Value) (an : Option Addr) (cdv ct : Value) (us : List Value), us.length = ps.length → bindArgs (fnOf x x (defArgs st) (defBody st) (defScope st) .none kV doc pm an cdv ct) ⟨us, []⟩ = pure (ps.zip us))
    (hbody : ∀ (f : Addr) (cdv : Value) (A : Around) (o : Option Value) (outer : List PySem.Env) (s : Shared) (H : Hp) (E : XK), Room k (A.deeper (envOfC x (defScope st) s.heap.objs.size f cdv)) → A.guards = some [] →
      PSs (cxC (L2.CX P w) P w K mg base N x (defScope st) f cdv (A.mark o) outer s H E) (defBody st) (tS ⟨K, ec⟩ (WL E) mb)) : CalC P w K mg base ec (k + 1) ps.length x (fnM N.length mb) := by
  obtain ⟨f, fd, F, hm⟩ := d.ex
  exact ⟨f, fd, ps, fnC_ok F S (hbody f), hm, F.kp, F.binds hb⟩
end

/-! ### the errors of a text, by their names -/
structure ErrM (P : Program) (K : Frag) (mg : Str → Option Value) (ec : List (Addr × Str)) (x : Str) (c : Nat) (f : Str) : Prop where
  ex : ∃ (C fI : Addr), ErrC P K C fI f ∧ ec[c]? = some (C, f) ∧ mg x = some (.ref C) ∧ keepIn K (.ref C) = true ∧ subIn K (.ref C) (.type "BaseException") = some true ∧ typeIn K (.ref C) = some (.type "type")
/-- an error class without an own __init__ -/
structure ErrP (K : Frag) (mg : Str → Option Value) (ec : List (Addr × Str)) (x : Str) (c : Nat) : Prop where
  ex : ∃ (C : Addr) (B newId initId : String) (bmB : List Value), ExcBaseFacts B newId initId bmB ∧ excIn K C bmB newId = true ∧ ec[c]? = some (C, ("" : Str)) ∧ mg x = some (.ref C) ∧ keepIn K (.ref C) = true
/-- what a name of a class stands for -/
def NmC (mg : Str → Option Value) (x : Str) (c : Value) : Prop := (x == ("__debug__" : Str)) = false ∧ (mg x = some c ∨ (mg x = none ∧ bootBuiltins x = some c ∧ x ≠ "__name__"))
structure IsN (K : Frag) (mg : Str → Option Value) (ec : List (Addr × Str)) (x : Str) (tb : List Bool) : Prop where
  ex : ∃ (v : V) (cv : Value), NmC mg x cv ∧ RelV v cv ∧ (∀ u, RelV v u → u = cv) ∧ IsT K ec cv tb
structure HdN (K : Frag) (mg : Str → Option Value) (ec : List (Addr × Str)) (xs : List Str) (tb : List Bool) : Prop where
  ex : ∃ cs : List Value, Paired (NmC mg) xs cs ∧ TbOk K ec cs tb
section
variable {X : Cx} {ec : List (Addr × Str)} {W : WX} {m : EM} {e : Expr} {pos : Pos}
theorem pe_mkM {x f : Str} {c : Nat} {p : Pos} (E : ErrM X.prog X.K X.mg ec x c f) (hr : Room 2 X.A) (hg : Gl X x) (he : PE X e (tM (kx X ec) W m)) (hdb : (x == ("__debug__" : Str)) = false := by decide)
    (h1 : starEach [e] X.env = (false, eval e X.env) :: starEach [] X.env := by rfl) (hpl : (backTo pos (starEach [] X.env)).any (·.1) = false := by rfl) : PE X (.Call (.Name x p) [e] [] pos) (tM (kx X ec) W (mkE c m)) := by
  obtain ⟨C, fI, T, h2, h3, h4, _, _⟩ := E.ex
  exact pe_mk T h2 h3 h4 hr hg he hdb h1 hpl
theorem pe_mkkM {x f : Str} {c : Nat} {p kp : Pos} (E : ErrM X.prog X.K X.mg ec x c f) (hr : Room 2 X.A) (hg : Gl X x) (he : PE X e (tM (kx X ec) W m)) (hdb : (x == ("__debug__" : Str)) = false := by decide)
    : PE X (.Call (.Name x p) [] [⟨some f, e, kp⟩] pos) (tM (kx X ec) W (mkE c m)) := by
  obtain ⟨C, fI, T, h2, h3, h4, _, _⟩ := E.ex
  exact pe_mkk T h2 h3 h4 hr hg he hdb
def mkP (c : Nat) (m : EM) : EM := fun env st => (m env st).bind fun _ st1 => .ok (.dat (errD c .none)) st1
theorem pe_mkP {x : Str} {c : Nat} {p : Pos} (E : ErrP X.K X.mg ec x c) (hg : Gl X x) (he : PE X e (tM (kx X ec) W m)) (hdb : (x == ("__debug__" : Str)) = false := by decide)
    (h1 : starEach [e] X.env = (false, eval e X.env) :: starEach [] X.env := by rfl) : PE X (.Call (.Name x p) [e] [] pos) (tM (kx X ec) W (mkP c m)) := by
  obtain ⟨C, B, newId, initId, bmB, FB, q, h2, h3, h4⟩ := E.ex
  refine (L2.pe_exc1 FB q h3 h4 hg he h1 hdb).imp fun σ H Q h => ?_
  obtain ⟨B, F, os, env, st, R, h⟩ := h
  refine ⟨B, F, os, env, st, R, Po.bind h ?_⟩
  intro v st1 y F1 os1 H1 ev e1 k1 r1 f1 p1
  intro a ha
  exact p1 (.ref a) _ _ _ (e1.trans (Ext.newF k1 ha)) (k1.newF ha) (.dat (.erp h2 upd_same)) Frs.dat
theorem ps_raM {x f : Str} {c : Nat} {p pos' : Pos} (E : ErrM X.prog X.K X.mg ec x c f) (hr : Room 2 X.A) (hca : X.calm = true) (tk : Takes X W) (hg : Gl X x) (he : PE X e (tM (kx X ec) W m)) (hdb : (x == ("__debug__" : Str)) = false := by decide)
    (h1 : starEach [e] X.env = (false, eval e X.env) :: starEach [] X.env := by rfl) (hpl : (backTo pos (starEach [] X.env)).any (·.1) = false := by rfl) : PS X (.Raise (some (.Call (.Name x p) [e] [] pos)) none pos') (tS (kx X ec) W (raiM c m)) := by
  obtain ⟨C, fI, T, h2, h3, h4, h5, h6⟩ := E.ex
  exact ps_ra T h2 h3 h4 hr hca tk (raises_own h5 h6) hg he hdb h1 hpl
theorem pe_isN {x : Str} {p px : Pos} {tb : List Bool} (hI : EcI X.K ec) (N : IsN X.K X.mg ec x tb) (hgx : Gl X x) (he : PE X e (tM (kx X ec) W m)) (hg : Gl X "isinstance") (hm : X.mg "isinstance" = none)
    (h1 : starEach [e, .Name x px] X.env = (false, eval e X.env) :: starEach [.Name x px] X.env := by rfl) (h2 : starEach [.Name x px] X.env = (false, eval (.Name x px) X.env) :: starEach [] X.env := by rfl) (h3 : (backTo pos (starEach [.Name x px] X.env)).any (·.1) = false := by rfl) :
    PE X (.Call (.Name "isinstance" p) [e, .Name x px] [] pos) (tM (kx X ec) W (iseM tb m)) := by
  obtain ⟨v, cv, ⟨hd, hn⟩, r, u, t⟩ := N.ex
  have hx : PE X (.Name x px) (tC v) := by
    rcases hn with hn | ⟨h1, h2, h3⟩
    · exact pe_glob hgx hn r hd
    · exact pe_bltn hgx h1 h2 r h3 hd
  exact pe_ise hI t he hx u hg hm h1 h2 h3
theorem hd_one {x : Str} {tb : List Bool} (h : HdN X.K X.mg ec [x] tb) (hg : Gl X x) : ∃ cs, (∀ p, Tst X (.Name x p) cs) ∧ TbOk X.K ec cs tb := by
  obtain ⟨cs, h1, h2⟩ := h.ex
  cases h1 with
  | cons a b =>
    cases b
    exact ⟨_, fun p => .one ⟨hg, a.1, a.2⟩, h2⟩
theorem names_mk : ∀ {xs : List Str} {cs : List Value}, Paired (NmC X.mg) xs cs → (∀ x ∈ xs, Gl X x) → ∀ {es : List Expr}, Paired (fun e x => ∃ p, e = Expr.Name x p) es xs → NamesAll X es cs
  | _, _, .nil, _, _, .nil => .nil
  | _, _, .cons a b, hg, _, .cons ⟨p, e⟩ r => by
    subst e
    exact .cons ⟨hg _ (by simp), a.1, a.2⟩ (names_mk b (fun y hy => hg y (by simp [hy])) r)
theorem hd_many {xs : List Str} {tb : List Bool} (h : HdN X.K X.mg ec xs tb) (hg : ∀ x ∈ xs, Gl X x) (hl : xs.length ≤ 100 := by decide) : ∃ cs, (∀ es k p, Paired (fun e x => ∃ p, e = Expr.Name x p) es xs → Tst X (.Tuple es k p) cs) ∧ TbOk X.K ec cs tb := by
  obtain ⟨cs, h1, h2⟩ := h.ex
  exact ⟨cs, fun es k p q => .many (names_mk h1 hg q) (by rw [← h1.length]; exact hl), h2⟩
end
end Pl

set_option Elab.async false
set_option linter.all false
set_option maxRecDepth 100000
set_option maxHeartbeats 4000000
namespace Pl
open PySem PySem.Spec PyProof.Rows L2 PySem.W

/-! ### the facts of a text, from its written part -/
section
variable {P : Program} {w : World} {K : Frag} {h : Heap} {mg : Str → Option Value} {ec : List (Addr × Str)}
theorem errC_mk {B newId initId : String} {bmB : List Value} {C fI cc cda : Addr} {f qual m : Str} {oc dV kV doc pm ct ccl cl : Value} {od an cdd cld : Option Addr} {osl ccs csl : Array (Option Value)} {vs : Array Value} {file : Str} {tf : Tok} {p1 p2 q0 q1 q2 q3 q4 q5 q6 q7 q8 q9 : Pos}
    (FB : ExcBaseFacts B newId initId bmB) (SF : StoreFacts B bmB "object.__setattr__" "object") (KF : KxsFacts B initId) (iC : findIn K (.ref C) "__init__" = some (some (.ref fI)))
    (lk : K.lookup fI = some ⟨oc, od, .func (initF qual f m dV kV doc pm ct an cc cda p1 p2 q0 q1 q2 q3 q4 q5 q6 q7 q8 q9), osl⟩)
    (qi : excInitIn K C bmB newId = true) (qo : excOver K C bmB = true) (hB : subIn K (.ref C) (.type B) = some true) (hs : ks_superIn K C C "__init__" = some (some (.builtin initId))) (hm : mroIn K C (.ref C) = some true) (hc : isClsIn K C = true)
    (hcd : codeIn K (.ref cda) qual = true) (lc : K.lookup cda = some ⟨ccl, cdd, .fields vs, ccs⟩) (hv : vs[2]? = some (.str file tf)) (hf : ((P.main.file : Str) == file) = true) (lcc : K.lookup cc = some ⟨cl, cld, .cell (some (.ref C)), csl⟩) (hq : (q2.endLine == q4.line) = true)
    (b1 : ∀ (s : Shared) (a b : Value), BindsTo s (initF qual f m dV kV doc pm ct an cc cda p1 p2 q0 q1 q2 q3 q4 q5 q6 q7 q8 q9) ⟨[a, b], []⟩ [("self", a), (f, b)])
    (b2 : ∀ (s : Shared) (a b : Value), BindsTo s (initF qual f m dV kV doc pm ct an cc cda p1 p2 q0 q1 q2 q3 q4 q5 q6 q7 q8 q9) ⟨[a], [(f, b)]⟩ [("self", a), (f, b)])
    (sup : nsIn K mainGlobals "super" = some none) (top : (P.main.scope.names.lookup ("super" : Str)).isSome = false) (any : nsIn K cStatics "thirdparty.any" = some none) (tC : typeIn K (.ref fI) = some (.type "function"))
    (sa : findIn K (.ref C) "__setattr__" = some (some (.builtin "object.__setattr__"))) (no : findIn K (.ref C) f = some none) (hd : hasDictIn K C = true)
    (fs : (f == ("self" : Str)) = false) (fdb : (f == ("__debug__" : Str)) = false) (fsu : (("super" : Str) == f) = false) (fcl : (("__class__" : Str) == f) = false) : ErrC P K C fI f where
  base := ⟨B, newId, initId, bmB, FB, SF, KF, qi, qo, hB, C, hs, hm, hc, qual, m, oc, dV, kV, doc, pm, ct, ccl, cl, od, an, cdd, cld, osl, ccs, csl, cc, cda, vs, file, tf, none, p1, p2, q0, q1, q2, q3, q4, q5, q6, q7, q8, q9, lk, hcd, lc, hv, hf, lcc, hq, b1, b2⟩
  sup := sup
  top := top
  any := any
  iC := iC
  tC := tC
  sa := sa
  noN := no
  hdC := hd
  fs := fs
  fdb := fdb
  fsu := fsu
  fcl := fcl
theorem errM_mk {C fI : Addr} {x f : Str} {c : Nat} (X : K.In h) (G : h.Ns mainGlobals mg) (aC : nsIn K mainGlobals x = some (some (.ref C))) (E : ErrC P K C fI f) (hec : ec[c]? = some (C, f)) (kC : keepIn K (.ref C) = true) (ex : subIn K (.ref C) (.type "BaseException") = some true)
    (ty : typeIn K (.ref C) = some (.type "type")) : ErrM P K mg ec x c f := ⟨C, fI, E, hec, mg_of X G aC, kC, ex, ty⟩
theorem eci_nil : EcI K [] := fun c C f h => by simp at h
theorem eci_cons {C : Addr} {f : Str} (i : ErrI K C f) (r : EcI K ec) : EcI K ((C, f) :: ec) := fun c C' f' h => by
  cases c with
  | zero => simp at h; obtain ⟨rfl, rfl⟩ := h; exact i
  | succ c => exact r c C' f' (by simpa using h)
theorem isT_nil {cv : Value} {tb : List Bool} : IsT K [] cv tb := fun c C f b h => by simp at h
theorem isT_cons {C : Addr} {f : Str} {cv : Value} {b : Bool} {tb : List Bool} (i : kitOne K (.ref C) cv = some b) (r : IsT K ec cv tb) : IsT K ((C, f) :: ec) cv (b :: tb) := fun c C' f' b' h hb => by
  cases c with
  | zero => simp at h hb; obtain ⟨rfl, rfl⟩ := h; subst hb; exact i
  | succ c => exact r c C' f' b' (by simpa using h) (by simpa using hb)
theorem tb_nil {cs : List Value} {tb : List Bool} : TbOk K [] cs tb := fun c C f b h => by simp at h
theorem tb_cons {C : Addr} {f : Str} {cs : List Value} {b : Bool} {tb : List Bool} (i : exmAny K (.ref C) cs = some b) (r : TbOk K ec cs tb) : TbOk K ((C, f) :: ec) cs (b :: tb) := fun c C' f' b' h hb => by
  cases c with
  | zero => simp at h hb; obtain ⟨rfl, rfl⟩ := h; subst hb; exact i
  | succ c => exact r c C' f' b' (by simpa using h) (by simpa using hb)
theorem exm_nil {cls : Value} : exmAny K cls [] = some false := rfl
theorem exm_cons {cls : Value} {c : Addr} {cs : List Value} {b d e : Bool} (h1 : subIn K (.ref c) (.type "BaseException") = some true) (h2 : hasDictIn K c = true) (h3 : typeIn K (.ref c) = some (.type "type")) (h4 : subIn K cls (.ref c) = some b) (r : exmAny K cls cs = some d) (he : e = (b || d)) : exmAny K cls (.ref c :: cs) = some e := by
  have q : exmOne K cls (.ref c) = some b := by
    obtain ⟨cd, hc, _⟩ := any_some h2
    have e1 : (subIn K (.ref c) (.type "BaseException") == some true) = true := by rw [h1] <;> rfl
    have e2 : ((clsIn K c).isSome && typeIn K (.ref c) == some (.type "type")) = true := by rw [hc, h3] <;> rfl
    show (if (subIn K (.ref c) (.type "BaseException") == some true) = true then (if ((clsIn K c).isSome && typeIn K (.ref c) == some (.type "type")) = true then subIn K cls (.ref c) else none) else none) = some b
    rw [if_pos e1, if_pos e2]
    exact h4
  unfold exmAny
  rw [q, r, he]
theorem nmc_own {x : Str} {C : Addr} (X : K.In h) (G : h.Ns mainGlobals mg) (a : nsIn K mainGlobals x = some (some (.ref C))) (hd : (x == ("__debug__" : Str)) = false := by decide) : NmC mg x (.ref C) := ⟨hd, .inl (mg_of X G a)⟩
theorem isN_own {x : Str} {C : Addr} {tb : List Bool} (X : K.In h) (G : h.Ns mainGlobals mg) (a : nsIn K mainGlobals x = some (some (.ref C))) (t : IsT K ec (.ref C) tb) (hd : (x == ("__debug__" : Str)) = false := by decide) : IsN K mg ec x tb :=
  ⟨.ref C, .ref C, nmc_own X G a hd, rfl, fun _ h => h, t⟩
theorem isN_ty {x : Str} {T : String} {tb : List Bool} (X : K.In h) (G : h.Ns mainGlobals mg) (a : nsIn K mainGlobals x = some none) (b : bootBuiltins x = some (.type T)) (t : IsT K ec (.type T) tb) (hd : (x == ("__debug__" : Str)) = false := by decide) (hn : x ≠ "__name__" := by decide) : IsN K mg ec x tb :=
  ⟨.ty T, .type T, ⟨hd, .inr ⟨mg_none_of X G a, b, hn⟩⟩, rfl, fun _ h => h, t⟩
end
end Pl

set_option Elab.async false
set_option linter.all false
set_option maxRecDepth 100000
set_option maxHeartbeats 4000000
namespace Pl.Law
open PySem PySem.Spec PyProof.Rows L2 PySem.W Pl
abbrev PR : Program := PySem.Challenge.pw_touchshare_k01_errors
def topS (i : Nat) : Stmt := PR.main.body.getD i (.Pass ⟨0, 0, 0, 0⟩)
structure Txt (K : Frag) (mg : Str → Option Value) (ec : List (Addr × Str)) : Prop where
  d__law_begun : Dn K mg "_law_begun" (topS 17)
  d__law_draw : Dn K mg "_law_draw" (topS 18)
  d__law_of : Dn K mg "_law_of" (topS 19)
  d__law_pairs : Dn K mg "_law_pairs" (topS 20)
  d__law_marks : Dn K mg "_law_marks" (topS 21)
  d__law_above : Dn K mg "_law_above" (topS 22)
  d__law_field : Dn K mg "_law_field" (topS 23)
  d__law_right : Dn K mg "_law_right" (topS 24)
  d_law : Dn K mg "law" (topS 25)
  b_enumerate : mg "enumerate" = none
  b_int : mg "int" = none
  b_isinstance : mg "isinstance" = none
  b_len : mg "len" = none
  b_list : mg "list" = none
  b_min : mg "min" = none
  b_range : mg "range" = none
  b_repr : mg "repr" = none
  e_ShareError : ErrP K mg ec "ShareError" 0
  e_BadRule : ErrM PR K mg ec "BadRule" 1 "part"
  e_BadJourney : ErrM PR K mg ec "BadJourney" 2 "number"
  e_BadKind : ErrM PR K mg ec "BadKind" 3 "value"
  e_BadNumber : ErrM PR K mg ec "BadNumber" 4 "value"
  e_BadStanding : ErrM PR K mg ec "BadStanding" 5 "value"
  e_BadFraction : ErrM PR K mg ec "BadFraction" 6 "value"
  e_BadPaper : ErrM PR K mg ec "BadPaper" 7 "part"
  e_BadText : ErrM PR K mg ec "BadText" 8 "line"
  e_BadDeed : ErrM PR K mg ec "BadDeed" 9 "value"
  e_BadMenu : ErrM PR K mg ec "BadMenu" 10 "number"
  e_BadPaid : ErrM PR K mg ec "BadPaid" 11 "number"
  e_BadWishes : ErrM PR K mg ec "BadWishes" 12 "value"
  e_TooGreat : ErrM PR K mg ec "TooGreat" 13 "most"
  e_Nothing : ErrM PR K mg ec "Nothing" 14 "value"
  n_BadRule : IsN K mg ec "BadRule" [false, true, false, false, false, false, false, false, false, false, false, false, false, false, false]
  n_BadPaper : IsN K mg ec "BadPaper" [false, false, false, false, false, false, false, true, false, false, false, false, false, false, false]
  n_BadKind : IsN K mg ec "BadKind" [false, false, false, true, false, false, false, false, false, false, false, false, false, false, false]
  n_BadNumber : IsN K mg ec "BadNumber" [false, false, false, false, true, false, false, false, false, false, false, false, false, false, false]
  n_BadStanding : IsN K mg ec "BadStanding" [false, false, false, false, false, true, false, false, false, false, false, false, false, false, false]
  n_BadFraction : IsN K mg ec "BadFraction" [false, false, false, false, false, false, true, false, false, false, false, false, false, false, false]
  n_BadDeed : IsN K mg ec "BadDeed" [false, false, false, false, false, false, false, false, false, true, false, false, false, false, false]
  n_BadWishes : IsN K mg ec "BadWishes" [false, false, false, false, false, false, false, false, false, false, false, false, true, false, false]
  n_Nothing : IsN K mg ec "Nothing" [false, false, false, false, false, false, false, false, false, false, false, false, false, false, true]
  n_BadJourney : IsN K mg ec "BadJourney" [false, false, true, false, false, false, false, false, false, false, false, false, false, false, false]
  n_BadMenu : IsN K mg ec "BadMenu" [false, false, false, false, false, false, false, false, false, false, true, false, false, false, false]
  n_BadPaid : IsN K mg ec "BadPaid" [false, false, false, false, false, false, false, false, false, false, false, true, false, false, false]
  n_BadText : IsN K mg ec "BadText" [false, false, false, false, false, false, false, false, true, false, false, false, false, false, false]
  n_TooGreat : IsN K mg ec "TooGreat" [false, false, false, false, false, false, false, false, false, false, false, false, false, true, false]
  n_ShareError : IsN K mg ec "ShareError" [true, true, true, true, true, true, true, true, true, true, true, true, true, false, false]
  n_ValueError : IsN K mg ec "ValueError" [true, true, true, true, true, true, true, true, true, true, true, true, true, false, false]
  n_LookupError : IsN K mg ec "LookupError" [false, false, false, false, false, false, false, false, false, false, false, false, false, false, true]
  n_OverflowError : IsN K mg ec "OverflowError" [false, false, false, false, false, false, false, false, false, false, false, false, false, true, false]
  n_TypeError : IsN K mg ec "TypeError" [false, false, false, false, false, false, false, false, false, false, false, false, false, false, false]
  h_ShareError : HdN K mg ec ["ShareError"] [true, true, true, true, true, true, true, true, true, true, true, true, true, false, false]
  u_line : ∀ c ∈ ([8] : List Nat), ∃ C : Addr, ec[c]? = some (C, ("line" : Str))
  u_most : ∀ c ∈ ([13] : List Nat), ∃ C : Addr, ec[c]? = some (C, ("most" : Str))
  u_number : ∀ c ∈ ([2, 10, 11] : List Nat), ∃ C : Addr, ec[c]? = some (C, ("number" : Str))
  u_part : ∀ c ∈ ([1, 7] : List Nat), ∃ C : Addr, ec[c]? = some (C, ("part" : Str))
  u_value : ∀ c ∈ ([3, 4, 5, 6, 9, 12, 14] : List Nat), ∃ C : Addr, ec[c]? = some (C, ("value" : Str))
  eci : EcI K ec
section
variable {w : World} {K : Frag} {mg : Str → Option Value} {base : Heap} {ec : List (Addr × Str)}
abbrev s__law_begun : Stmt := topS 17
abbrev N__law_begun : List Str := ["script", "great", "cell"]
theorem nd__law_begun : N__law_begun.Nodup := by decide +kernel
def m__law_begun : SM := (seqM (setM 1 (compM (seqI true (varM 0)) [2] (.nm 2) (binM gGe (varM 2) (binM gPow (cstM (.int 10)) (cstM (.int 18)))) (varM 2))) (fzM 1 (retM (dctM ["cells", "left", "spot"] (aof [(binM gAdd (callM gList (acons (varM 0) anil)) (lstM (acons (callM gLen (acons (varM 0) anil)) anil))), (ifM (binM gNeq (varM 1) (lstM anil)) (binM gIx (varM 1) (cstM (.int 0))) (cstM (.int 0))), (cstM (.int 0))])))))
abbrev f__law_begun : FM := fnM 3 m__law_begun
theorem cal__law_begun (T : Txt K mg ec) (SB : SysM base) : Cal PR w K mg base ec 1 1 "_law_begun" f__law_begun :=
  cal_of (ps := ["script"]) (N := N__law_begun) (st := s__law_begun) (k := 0) T.d__law_begun ⟨rfl, rfl, rfl, by decide +kernel, rfl, by decide +kernel, by decide +kernel⟩ (fun _ _ _ _ _ _ us hl => match us, hl with | [_], _ => rfl) (by
  intro f cdv A outer s H E hr hg
  exact (pss_c (ps_comp (own := [("cell", 2)]) (by rfl) (by exact nd__law_begun) (by rfl) (by rfl) (by exact sw_true rfl rfl rfl rfl) (pi_any (pe_v 0)) (blkOk_by (N := N__law_begun) (sc := defScope s__law_begun) (own := [("cell", 2)]) (by decide +kernel)) (fun _ _ _ _ _ => (pg_name (by exact nd__law_begun) (by rfl) (by exact .inl rfl))) (fun _ _ _ _ _ => (pts_one (pt_ge  (pe_v 2) (pe_pw pe_ci pe_ci)))) (fun _ _ _ _ _ => (pe_v 2)) tg_nm (by decide)) (pss_fz 1 (pss_1 (ps_r (pe_dct (ks := ["cells", "left", "spot"]) (ms := [(binM gAdd (callM gList (acons (varM 0) anil)) (lstM (acons (callM gLen (acons (varM 0) anil)) anil))), (ifM (binM gNeq (varM 1) (lstM anil)) (binM gIx (varM 1) (cstM (.int 0))) (cstM (.int 0))), (cstM (.int 0))]) (by exact (pps_cons pe_cs (pe_frz (pe_add (pe_cT call_list_of snd_list (by rfl) (by exact T.b_list) (by decide +kernel) (pa_c (pe_v 0) pa_n)) (pe_ls (pa_c (pe_cB call_len snd_len (by rfl) (by exact T.b_len) (by decide +kernel) (pa_c (pe_v 0) pa_n)) pa_n)))) (pps_cons pe_cs (pe_frz (pe_if (pt_ne (by exact hr.units) (pe_v 1) (pe_ls pa_n)) (pe_ixx (pe_v 1) pe_ci) pe_ci)) (pps_cons pe_cs (pe_frz pe_ci) pps_nil)))) rfl))))))

abbrev s__law_draw : Stmt := topS 18
abbrev N__law_draw : List Str := ["m", "many", "found", "spot", "cell", "mixed"]
theorem nd__law_draw : N__law_draw.Nodup := by decide +kernel
def m__law_draw : SM := (seqM (ifS (binM gGt (getM (varM 0) (cstM (.str "left"))) (cstM (.int 0))) (seqM (setM 2 (frzM (binM gMod (callM gInt (acons (getM (varM 0) (cstM (.str "left"))) anil)) (varM 1))))
  (seqM (putM (varM 0) (cstM (.str "left")) (binM gDiv (getM (varM 0) (cstM (.str "left"))) (varM 1)))
  (retM (varM 2)))) nilM)
  (seqM (setM 3 (frzM (binM gAdd (getM (varM 0) (cstM (.str "spot"))) (cstM (.int 1)))))
  (seqM (putM (varM 0) (cstM (.str "spot")) (varM 3))
  (seqM (setM 4 (frzM (binM gIx (getM (varM 0) (cstM (.str "cells"))) (binM gMod (callM gInt (acons (varM 3) anil)) (callM gLen (acons (getM (varM 0) (cstM (.str "cells"))) anil))))))
  (seqM (setM 5 (frzM (binM gMul (callM gInt (acons (binM gAdd (binM gAdd (binM gMod (callM gInt (acons (varM 4) anil)) (cstM (.int 2147483629))) (binM gMul (cstM (.int 6133)) (varM 3))) (binM gMul (binM gMul (cstM (.int 23)) (varM 3)) (varM 3))) anil)) (cstM (.int 48271)))))
  (seqM (setM 5 (frzM (binM gMul (callM gInt (acons (binM gAdd (binM gMod (callM gInt (acons (varM 5) anil)) (cstM (.int 2147483647))) (binM gMul (cstM (.int 93241)) (varM 3))) anil)) (cstM (.int 69621)))))
  (retM (binM gMod (callM gInt (acons (binM gDiv (binM gMod (callM gInt (acons (varM 5) anil)) (cstM (.int 2147483587))) (cstM (.int 13))) anil)) (varM 1)))))))))
abbrev f__law_draw : FM := fnM 6 m__law_draw
theorem cal__law_draw (T : Txt K mg ec) (SB : SysM base) : Cal PR w K mg base ec 1 2 "_law_draw" f__law_draw :=
  cal_of (ps := ["m", "many"]) (N := N__law_draw) (st := s__law_draw) (k := 0) T.d__law_draw ⟨rfl, rfl, rfl, by decide +kernel, rfl, by decide +kernel, by decide +kernel⟩ (fun _ _ _ _ _ _ us hl => match us, hl with | [_, _], _ => rfl) (by
  intro f cdv A outer s H E hr hg
  exact (pss_c (ps_i (pt_gt  (pe_get (by exact hu_of hr) (pe_v 0) pe_cs (by exact fun _ _ => rfl)) pe_ci) (pss_c (ps_s (by exact nd__law_draw) (i := 2) (by rfl) (by exact .inl rfl) (pe_frz (pe_md (pe_cT call_int1 snd_int (by rfl) (by exact T.b_int) (by decide +kernel) (pa_c (pe_get (by exact hu_of hr) (pe_v 0) pe_cs (by exact fun _ _ => rfl)) pa_n)) (pe_v 1))))
  (pss_c (ps_pt (by exact hu_of hr) (pe_v 0) pe_cs (pe_fd (pe_get (by exact hu_of hr) (pe_v 0) pe_cs (by exact fun _ _ => rfl)) (pe_v 1)))
  (pss_1 (ps_r (pe_v 2))))) pss_n)
  (pss_c (ps_s (by exact nd__law_draw) (i := 3) (by rfl) (by exact .inl rfl) (pe_frz (pe_add (pe_get (by exact hu_of hr) (pe_v 0) pe_cs (by exact fun _ _ => rfl)) pe_ci)))
  (pss_c (ps_pt (by exact hu_of hr) (pe_v 0) pe_cs (pe_v 3))
  (pss_c (ps_s (by exact nd__law_draw) (i := 4) (by rfl) (by exact .inl rfl) (pe_frz (pe_ixx (pe_get (by exact hu_of hr) (pe_v 0) pe_cs (by exact fun _ _ => rfl)) (pe_md (pe_cT call_int1 snd_int (by rfl) (by exact T.b_int) (by decide +kernel) (pa_c (pe_v 3) pa_n)) (pe_cB call_len snd_len (by rfl) (by exact T.b_len) (by decide +kernel) (pa_c (pe_get (by exact hu_of hr) (pe_v 0) pe_cs (by exact fun _ _ => rfl)) pa_n))))))
  (pss_c (ps_s (by exact nd__law_draw) (i := 5) (by rfl) (by exact .inl rfl) (pe_frz (pe_ml (pe_cT call_int1 snd_int (by rfl) (by exact T.b_int) (by decide +kernel) (pa_c (pe_add (pe_add (pe_md (pe_cT call_int1 snd_int (by rfl) (by exact T.b_int) (by decide +kernel) (pa_c (pe_v 4) pa_n)) pe_ci) (pe_ml pe_ci (pe_v 3))) (pe_ml (pe_ml pe_ci (pe_v 3)) (pe_v 3))) pa_n)) pe_ci)))
  (pss_c (ps_s (by exact nd__law_draw) (i := 5) (by rfl) (by exact .inl rfl) (pe_frz (pe_ml (pe_cT call_int1 snd_int (by rfl) (by exact T.b_int) (by decide +kernel) (pa_c (pe_add (pe_md (pe_cT call_int1 snd_int (by rfl) (by exact T.b_int) (by decide +kernel) (pa_c (pe_v 5) pa_n)) pe_ci) (pe_ml pe_ci (pe_v 3))) pa_n)) pe_ci)))
  (pss_1 (ps_r (pe_md (pe_cT call_int1 snd_int (by rfl) (by exact T.b_int) (by decide +kernel) (pa_c (pe_fd (pe_md (pe_cT call_int1 snd_int (by rfl) (by exact T.b_int) (by decide +kernel) (pa_c (pe_v 5) pa_n)) pe_ci) pe_ci) pa_n)) (pe_v 1)))))))))))

abbrev s__law_of : Stmt := topS 19
abbrev N__law_of : List Str := ["m", "some"]
theorem nd__law_of : N__law_of.Nodup := by decide +kernel
def m__law_of : SM := (retM (binM gIx (varM 1) (callF 2 f__law_draw (acons (varM 0) (acons (callM gLen (acons (varM 1) anil)) anil)))))
abbrev f__law_of : FM := fnM 2 m__law_of
theorem cal__law_of (T : Txt K mg ec) (SB : SysM base) : Cal PR w K mg base ec 2 2 "_law_of" f__law_of :=
  cal_of (ps := ["m", "some"]) (N := N__law_of) (st := s__law_of) (k := 1) T.d__law_of ⟨rfl, rfl, rfl, by decide +kernel, rfl, by decide +kernel, by decide +kernel⟩ (fun _ _ _ _ _ _ us hl => match us, hl with | [_, _], _ => rfl) (by
  intro f cdv A outer s H E hr hg
  exact (pss_1 (ps_r (pe_ixx (pe_v 1) (pe_cal (by exact cal__law_draw T SB) (by exact hr.mono (by decide)) (by exact hg) (by rfl) fn_tk (pa_c (pe_v 0) (pa_c (pe_cB call_len snd_len (by rfl) (by exact T.b_len) (by decide +kernel) (pa_c (pe_v 1) pa_n)) pa_n)))))))

abbrev s__law_pairs : Stmt := topS 20
abbrev N__law_pairs : List Str := ["thing", "found"]
theorem nd__law_pairs : N__law_pairs.Nodup := by decide +kernel
def m__law_pairs : SM := (seqM (setM 1 (frzM (lstM (acons (tupM (acons (mkE 1 (varM 0)) (acons (mkE 1 (varM 0)) anil))) (acons (tupM (acons (mkE 7 (varM 0)) (acons (mkE 7 (varM 0)) anil))) anil)))))
  (seqM (setM 1 (frzM (binM gAdd (varM 1) (lstM (acons (tupM (acons (mkE 3 (varM 0)) (acons (mkE 3 (varM 0)) anil))) (acons (tupM (acons (mkE 4 (varM 0)) (acons (mkE 4 (varM 0)) anil))) anil))))))
  (seqM (setM 1 (frzM (binM gAdd (varM 1) (lstM (acons (tupM (acons (mkE 5 (varM 0)) (acons (mkE 5 (varM 0)) anil))) (acons (tupM (acons (mkE 6 (varM 0)) (acons (mkE 6 (varM 0)) anil))) anil))))))
  (seqM (setM 1 (frzM (binM gAdd (varM 1) (lstM (acons (tupM (acons (mkE 9 (varM 0)) (acons (mkE 9 (varM 0)) anil))) (acons (tupM (acons (mkE 12 (varM 0)) (acons (mkE 12 (varM 0)) anil))) anil))))))
  (seqM (setM 1 (frzM (binM gAdd (varM 1) (lstM (acons (tupM (acons (mkE 14 (varM 0)) (acons (mkE 14 (varM 0)) anil))) (acons (tupM (acons (mkE 2 (varM 0)) (acons (mkE 2 (varM 0)) anil))) anil))))))
  (seqM (setM 1 (frzM (binM gAdd (varM 1) (lstM (acons (tupM (acons (mkE 10 (varM 0)) (acons (mkE 10 (varM 0)) anil))) (acons (tupM (acons (mkE 11 (varM 0)) (acons (mkE 11 (varM 0)) anil))) anil))))))
  (retM (binM gAdd (varM 1) (lstM (acons (tupM (acons (mkE 8 (varM 0)) (acons (mkE 8 (varM 0)) anil))) (acons (tupM (acons (mkE 13 (varM 0)) (acons (mkE 13 (varM 0)) anil))) anil)))))))))))
abbrev f__law_pairs : FM := fnM 2 m__law_pairs
theorem cal__law_pairs (T : Txt K mg ec) (SB : SysM base) : Cal PR w K mg base ec 3 1 "_law_pairs" f__law_pairs :=
  cal_of (ps := ["thing"]) (N := N__law_pairs) (st := s__law_pairs) (k := 2) T.d__law_pairs ⟨rfl, rfl, rfl, by decide +kernel, rfl, by decide +kernel, by decide +kernel⟩ (fun _ _ _ _ _ _ us hl => match us, hl with | [_], _ => rfl) (by
  intro f cdv A outer s H E hr hg
  exact (pss_c (ps_s (by exact nd__law_pairs) (i := 1) (by rfl) (by exact .inl rfl) (pe_frz (pe_ls (pa_c (pe_tu (pa_c (pe_mkM (by exact T.e_BadRule) (by exact hr.mono (by decide)) (by rfl) (pe_v 0)) (pa_c (pe_mkkM (by exact T.e_BadRule) (by exact hr.mono (by decide)) (by rfl) (pe_v 0)) pa_n))) (pa_c (pe_tu (pa_c (pe_mkM (by exact T.e_BadPaper) (by exact hr.mono (by decide)) (by rfl) (pe_v 0)) (pa_c (pe_mkkM (by exact T.e_BadPaper) (by exact hr.mono (by decide)) (by rfl) (pe_v 0)) pa_n))) pa_n)))))
  (pss_c (ps_s (by exact nd__law_pairs) (i := 1) (by rfl) (by exact .inl rfl) (pe_frz (pe_add (pe_v 1) (pe_ls (pa_c (pe_tu (pa_c (pe_mkM (by exact T.e_BadKind) (by exact hr.mono (by decide)) (by rfl) (pe_v 0)) (pa_c (pe_mkkM (by exact T.e_BadKind) (by exact hr.mono (by decide)) (by rfl) (pe_v 0)) pa_n))) (pa_c (pe_tu (pa_c (pe_mkM (by exact T.e_BadNumber) (by exact hr.mono (by decide)) (by rfl) (pe_v 0)) (pa_c (pe_mkkM (by exact T.e_BadNumber) (by exact hr.mono (by decide)) (by rfl) (pe_v 0)) pa_n))) pa_n))))))
  (pss_c (ps_s (by exact nd__law_pairs) (i := 1) (by rfl) (by exact .inl rfl) (pe_frz (pe_add (pe_v 1) (pe_ls (pa_c (pe_tu (pa_c (pe_mkM (by exact T.e_BadStanding) (by exact hr.mono (by decide)) (by rfl) (pe_v 0)) (pa_c (pe_mkkM (by exact T.e_BadStanding) (by exact hr.mono (by decide)) (by rfl) (pe_v 0)) pa_n))) (pa_c (pe_tu (pa_c (pe_mkM (by exact T.e_BadFraction) (by exact hr.mono (by decide)) (by rfl) (pe_v 0)) (pa_c (pe_mkkM (by exact T.e_BadFraction) (by exact hr.mono (by decide)) (by rfl) (pe_v 0)) pa_n))) pa_n))))))
  (pss_c (ps_s (by exact nd__law_pairs) (i := 1) (by rfl) (by exact .inl rfl) (pe_frz (pe_add (pe_v 1) (pe_ls (pa_c (pe_tu (pa_c (pe_mkM (by exact T.e_BadDeed) (by exact hr.mono (by decide)) (by rfl) (pe_v 0)) (pa_c (pe_mkkM (by exact T.e_BadDeed) (by exact hr.mono (by decide)) (by rfl) (pe_v 0)) pa_n))) (pa_c (pe_tu (pa_c (pe_mkM (by exact T.e_BadWishes) (by exact hr.mono (by decide)) (by rfl) (pe_v 0)) (pa_c (pe_mkkM (by exact T.e_BadWishes) (by exact hr.mono (by decide)) (by rfl) (pe_v 0)) pa_n))) pa_n))))))
  (pss_c (ps_s (by exact nd__law_pairs) (i := 1) (by rfl) (by exact .inl rfl) (pe_frz (pe_add (pe_v 1) (pe_ls (pa_c (pe_tu (pa_c (pe_mkM (by exact T.e_Nothing) (by exact hr.mono (by decide)) (by rfl) (pe_v 0)) (pa_c (pe_mkkM (by exact T.e_Nothing) (by exact hr.mono (by decide)) (by rfl) (pe_v 0)) pa_n))) (pa_c (pe_tu (pa_c (pe_mkM (by exact T.e_BadJourney) (by exact hr.mono (by decide)) (by rfl) (pe_v 0)) (pa_c (pe_mkkM (by exact T.e_BadJourney) (by exact hr.mono (by decide)) (by rfl) (pe_v 0)) pa_n))) pa_n))))))
  (pss_c (ps_s (by exact nd__law_pairs) (i := 1) (by rfl) (by exact .inl rfl) (pe_frz (pe_add (pe_v 1) (pe_ls (pa_c (pe_tu (pa_c (pe_mkM (by exact T.e_BadMenu) (by exact hr.mono (by decide)) (by rfl) (pe_v 0)) (pa_c (pe_mkkM (by exact T.e_BadMenu) (by exact hr.mono (by decide)) (by rfl) (pe_v 0)) pa_n))) (pa_c (pe_tu (pa_c (pe_mkM (by exact T.e_BadPaid) (by exact hr.mono (by decide)) (by rfl) (pe_v 0)) (pa_c (pe_mkkM (by exact T.e_BadPaid) (by exact hr.mono (by decide)) (by rfl) (pe_v 0)) pa_n))) pa_n))))))
  (pss_1 (ps_r (pe_add (pe_v 1) (pe_ls (pa_c (pe_tu (pa_c (pe_mkM (by exact T.e_BadText) (by exact hr.mono (by decide)) (by rfl) (pe_v 0)) (pa_c (pe_mkkM (by exact T.e_BadText) (by exact hr.mono (by decide)) (by rfl) (pe_v 0)) pa_n))) (pa_c (pe_tu (pa_c (pe_mkM (by exact T.e_TooGreat) (by exact hr.mono (by decide)) (by rfl) (pe_v 0)) (pa_c (pe_mkkM (by exact T.e_TooGreat) (by exact hr.mono (by decide)) (by rfl) (pe_v 0)) pa_n))) pa_n)))))))))))))

abbrev s__law_marks : Stmt := topS 21
abbrev N__law_marks : List Str := ["error", "found"]
theorem nd__law_marks : N__law_marks.Nodup := by decide +kernel
def m__law_marks : SM := (seqM (setM 1 (frzM (lstM (acons (iseM [false, true, false, false, false, false, false, false, false, false, false, false, false, false, false] (varM 0)) (acons (iseM [false, false, false, false, false, false, false, true, false, false, false, false, false, false, false] (varM 0)) (acons (iseM [false, false, false, true, false, false, false, false, false, false, false, false, false, false, false] (varM 0)) anil))))))
  (seqM (setM 1 (frzM (binM gAdd (varM 1) (lstM (acons (iseM [false, false, false, false, true, false, false, false, false, false, false, false, false, false, false] (varM 0)) (acons (iseM [false, false, false, false, false, true, false, false, false, false, false, false, false, false, false] (varM 0)) (acons (iseM [false, false, false, false, false, false, true, false, false, false, false, false, false, false, false] (varM 0)) anil)))))))
  (seqM (setM 1 (frzM (binM gAdd (varM 1) (lstM (acons (iseM [false, false, false, false, false, false, false, false, false, true, false, false, false, false, false] (varM 0)) (acons (iseM [false, false, false, false, false, false, false, false, false, false, false, false, true, false, false] (varM 0)) (acons (iseM [false, false, false, false, false, false, false, false, false, false, false, false, false, false, true] (varM 0)) anil)))))))
  (seqM (setM 1 (frzM (binM gAdd (varM 1) (lstM (acons (iseM [false, false, true, false, false, false, false, false, false, false, false, false, false, false, false] (varM 0)) (acons (iseM [false, false, false, false, false, false, false, false, false, false, true, false, false, false, false] (varM 0)) (acons (iseM [false, false, false, false, false, false, false, false, false, false, false, true, false, false, false] (varM 0)) anil)))))))
  (retM (binM gAdd (varM 1) (lstM (acons (iseM [false, false, false, false, false, false, false, false, true, false, false, false, false, false, false] (varM 0)) (acons (iseM [false, false, false, false, false, false, false, false, false, false, false, false, false, true, false] (varM 0)) anil)))))))))
abbrev f__law_marks : FM := fnM 2 m__law_marks
theorem cal__law_marks (T : Txt K mg ec) (SB : SysM base) : Cal PR w K mg base ec 1 1 "_law_marks" f__law_marks :=
  cal_of (ps := ["error"]) (N := N__law_marks) (st := s__law_marks) (k := 0) T.d__law_marks ⟨rfl, rfl, rfl, by decide +kernel, rfl, by decide +kernel, by decide +kernel⟩ (fun _ _ _ _ _ _ us hl => match us, hl with | [_], _ => rfl) (by
  intro f cdv A outer s H E hr hg
  exact (pss_c (ps_s (by exact nd__law_marks) (i := 1) (by rfl) (by exact .inl rfl) (pe_frz (pe_ls (pa_c (pe_isN (tb := [false, true, false, false, false, false, false, false, false, false, false, false, false, false, false]) (by exact T.eci) (by exact T.n_BadRule) (by rfl) (pe_v 0) (by rfl) (by exact T.b_isinstance)) (pa_c (pe_isN (tb := [false, false, false, false, false, false, false, true, false, false, false, false, false, false, false]) (by exact T.eci) (by exact T.n_BadPaper) (by rfl) (pe_v 0) (by rfl) (by exact T.b_isinstance)) (pa_c (pe_isN (tb := [false, false, false, true, false, false, false, false, false, false, false, false, false, false, false]) (by exact T.eci) (by exact T.n_BadKind) (by rfl) (pe_v 0) (by rfl) (by exact T.b_isinstance)) pa_n))))))
  (pss_c (ps_s (by exact nd__law_marks) (i := 1) (by rfl) (by exact .inl rfl) (pe_frz (pe_add (pe_v 1) (pe_ls (pa_c (pe_isN (tb := [false, false, false, false, true, false, false, false, false, false, false, false, false, false, false]) (by exact T.eci) (by exact T.n_BadNumber) (by rfl) (pe_v 0) (by rfl) (by exact T.b_isinstance)) (pa_c (pe_isN (tb := [false, false, false, false, false, true, false, false, false, false, false, false, false, false, false]) (by exact T.eci) (by exact T.n_BadStanding) (by rfl) (pe_v 0) (by rfl) (by exact T.b_isinstance)) (pa_c (pe_isN (tb := [false, false, false, false, false, false, true, false, false, false, false, false, false, false, false]) (by exact T.eci) (by exact T.n_BadFraction) (by rfl) (pe_v 0) (by rfl) (by exact T.b_isinstance)) pa_n)))))))
  (pss_c (ps_s (by exact nd__law_marks) (i := 1) (by rfl) (by exact .inl rfl) (pe_frz (pe_add (pe_v 1) (pe_ls (pa_c (pe_isN (tb := [false, false, false, false, false, false, false, false, false, true, false, false, false, false, false]) (by exact T.eci) (by exact T.n_BadDeed) (by rfl) (pe_v 0) (by rfl) (by exact T.b_isinstance)) (pa_c (pe_isN (tb := [false, false, false, false, false, false, false, false, false, false, false, false, true, false, false]) (by exact T.eci) (by exact T.n_BadWishes) (by rfl) (pe_v 0) (by rfl) (by exact T.b_isinstance)) (pa_c (pe_isN (tb := [false, false, false, false, false, false, false, false, false, false, false, false, false, false, true]) (by exact T.eci) (by exact T.n_Nothing) (by rfl) (pe_v 0) (by rfl) (by exact T.b_isinstance)) pa_n)))))))
  (pss_c (ps_s (by exact nd__law_marks) (i := 1) (by rfl) (by exact .inl rfl) (pe_frz (pe_add (pe_v 1) (pe_ls (pa_c (pe_isN (tb := [false, false, true, false, false, false, false, false, false, false, false, false, false, false, false]) (by exact T.eci) (by exact T.n_BadJourney) (by rfl) (pe_v 0) (by rfl) (by exact T.b_isinstance)) (pa_c (pe_isN (tb := [false, false, false, false, false, false, false, false, false, false, true, false, false, false, false]) (by exact T.eci) (by exact T.n_BadMenu) (by rfl) (pe_v 0) (by rfl) (by exact T.b_isinstance)) (pa_c (pe_isN (tb := [false, false, false, false, false, false, false, false, false, false, false, true, false, false, false]) (by exact T.eci) (by exact T.n_BadPaid) (by rfl) (pe_v 0) (by rfl) (by exact T.b_isinstance)) pa_n)))))))
  (pss_1 (ps_r (pe_add (pe_v 1) (pe_ls (pa_c (pe_isN (tb := [false, false, false, false, false, false, false, false, true, false, false, false, false, false, false]) (by exact T.eci) (by exact T.n_BadText) (by rfl) (pe_v 0) (by rfl) (by exact T.b_isinstance)) (pa_c (pe_isN (tb := [false, false, false, false, false, false, false, false, false, false, false, false, false, true, false]) (by exact T.eci) (by exact T.n_TooGreat) (by rfl) (pe_v 0) (by rfl) (by exact T.b_isinstance)) pa_n)))))))))))

abbrev s__law_above : Stmt := topS 22
abbrev N__law_above : List Str := ["error", "found"]
theorem nd__law_above : N__law_above.Nodup := by decide +kernel
def m__law_above : SM := (seqM (setM 1 (frzM (lstM (acons (iseM [true, true, true, true, true, true, true, true, true, true, true, true, true, false, false] (varM 0)) (acons (iseM [true, true, true, true, true, true, true, true, true, true, true, true, true, false, false] (varM 0)) (acons (iseM [false, false, false, false, false, false, false, false, false, false, false, false, false, false, true] (varM 0)) anil))))))
  (retM (binM gAdd (varM 1) (lstM (acons (iseM [false, false, false, false, false, false, false, false, false, false, false, false, false, true, false] (varM 0)) (acons (iseM [false, false, false, false, false, false, false, false, false, false, false, false, false, false, false] (varM 0)) anil))))))
abbrev f__law_above : FM := fnM 2 m__law_above
theorem cal__law_above (T : Txt K mg ec) (SB : SysM base) : Cal PR w K mg base ec 1 1 "_law_above" f__law_above :=
  cal_of (ps := ["error"]) (N := N__law_above) (st := s__law_above) (k := 0) T.d__law_above ⟨rfl, rfl, rfl, by decide +kernel, rfl, by decide +kernel, by decide +kernel⟩ (fun _ _ _ _ _ _ us hl => match us, hl with | [_], _ => rfl) (by
  intro f cdv A outer s H E hr hg
  exact (pss_c (ps_s (by exact nd__law_above) (i := 1) (by rfl) (by exact .inl rfl) (pe_frz (pe_ls (pa_c (pe_isN (tb := [true, true, true, true, true, true, true, true, true, true, true, true, true, false, false]) (by exact T.eci) (by exact T.n_ShareError) (by rfl) (pe_v 0) (by rfl) (by exact T.b_isinstance)) (pa_c (pe_isN (tb := [true, true, true, true, true, true, true, true, true, true, true, true, true, false, false]) (by exact T.eci) (by exact T.n_ValueError) (by rfl) (pe_v 0) (by rfl) (by exact T.b_isinstance)) (pa_c (pe_isN (tb := [false, false, false, false, false, false, false, false, false, false, false, false, false, false, true]) (by exact T.eci) (by exact T.n_LookupError) (by rfl) (pe_v 0) (by rfl) (by exact T.b_isinstance)) pa_n))))))
  (pss_1 (ps_r (pe_add (pe_v 1) (pe_ls (pa_c (pe_isN (tb := [false, false, false, false, false, false, false, false, false, false, false, false, false, true, false]) (by exact T.eci) (by exact T.n_OverflowError) (by rfl) (pe_v 0) (by rfl) (by exact T.b_isinstance)) (pa_c (pe_isN (tb := [false, false, false, false, false, false, false, false, false, false, false, false, false, false, false]) (by exact T.eci) (by exact T.n_TypeError) (by rfl) (pe_v 0) (by rfl) (by exact T.b_isinstance)) pa_n))))))))

abbrev s__law_field : Stmt := topS 23
abbrev N__law_field : List Str := ["error", "spot"]
theorem nd__law_field : N__law_field.Nodup := by decide +kernel
def m__law_field : SM := (seqM (ifS (binM gLt (varM 1) (cstM (.int 2))) (retM (fldM [1, 7] (varM 0))) nilM)
  (seqM (ifS (binM gLt (varM 1) (cstM (.int 9))) (retM (fldM [3, 4, 5, 6, 9, 12, 14] (varM 0))) nilM)
  (seqM (ifS (binM gLt (varM 1) (cstM (.int 12))) (retM (fldM [2, 10, 11] (varM 0))) nilM)
  (retM (ifM (binM gEqq (varM 1) (cstM (.int 12))) (fldM [8] (varM 0)) (fldM [13] (varM 0)))))))
abbrev f__law_field : FM := fnM 2 m__law_field
theorem cal__law_field (T : Txt K mg ec) (SB : SysM base) : Cal PR w K mg base ec 1 2 "_law_field" f__law_field :=
  cal_of (ps := ["error", "spot"]) (N := N__law_field) (st := s__law_field) (k := 0) T.d__law_field ⟨rfl, rfl, rfl, by decide +kernel, rfl, by decide +kernel, by decide +kernel⟩ (fun _ _ _ _ _ _ us hl => match us, hl with | [_, _], _ => rfl) (by
  intro f cdv A outer s H E hr hg
  exact (pss_c (ps_i (pt_lt  (pe_v 1) pe_ci) (pss_1 (ps_r (pe_xat (cs := [1, 7]) (by exact T.eci) (by exact T.u_part) (pe_v 0)))) pss_n)
  (pss_c (ps_i (pt_lt  (pe_v 1) pe_ci) (pss_1 (ps_r (pe_xat (cs := [3, 4, 5, 6, 9, 12, 14]) (by exact T.eci) (by exact T.u_value) (pe_v 0)))) pss_n)
  (pss_c (ps_i (pt_lt  (pe_v 1) pe_ci) (pss_1 (ps_r (pe_xat (cs := [2, 10, 11]) (by exact T.eci) (by exact T.u_number) (pe_v 0)))) pss_n)
  (pss_1 (ps_r (pe_if (pt_eq (by exact hr.units) (pe_v 1) pe_ci) (pe_xat (cs := [8]) (by exact T.eci) (by exact T.u_line) (pe_v 0)) (pe_xat (cs := [13]) (by exact T.eci) (by exact T.u_most) (pe_v 0)))))))))

abbrev s__law_right : Stmt := topS 24
abbrev N__law_right : List Str := ["thing", "pairs", "spot", "both", "above", "error", "k"]
theorem nd__law_right : N__law_right.Nodup := by decide +kernel
def m__law_right : SM := (seqM (setM 1 (frzM (callF 1 f__law_pairs (acons (varM 0) anil))))
  (seqM (frM (enuI (acons (varM 1) anil)) (.tp [2, 3]) (seqM (setM 4 (frzM (lstM (acons (cstM (.bool true)) (acons (cstM (.bool true)) (acons (cstM (.bool false)) (acons (cstM (.bool false)) (acons (cstM (.bool false)) anil))))))))
  (seqM (ifS (binM gEqq (varM 2) (cstM (.int 8))) (setM 4 (frzM (lstM (acons (cstM (.bool false)) (acons (cstM (.bool false)) (acons (cstM (.bool true)) (acons (cstM (.bool false)) (acons (cstM (.bool false)) anil)))))))) nilM)
  (seqM (ifS (binM gEqq (varM 2) (cstM (.int 13))) (setM 4 (frzM (lstM (acons (cstM (.bool false)) (acons (cstM (.bool false)) (acons (cstM (.bool false)) (acons (cstM (.bool true)) (acons (cstM (.bool false)) anil)))))))) nilM)
  (frM (seqI false (varM 3)) (.nm 5) (seqM (ifS (orM (binM gNeq (callF 1 f__law_marks (acons (varM 5) anil)) (compM (rng1I (acons (cstM (.int 14)) anil)) [6] (.nm 6) yesM (binM gEqq (varM 6) (varM 2)))) (binM gNeq (callF 1 f__law_above (acons (varM 5) anil)) (varM 4))) (retM (cstM (.bool false))) nilM)
  (ifS (binM gNeq (callM gRepr (acons (callF 2 f__law_field (acons (varM 5) (acons (varM 2) anil))) anil)) (callM gRepr (acons (varM 0) anil))) (retM (cstM (.bool false))) nilM)))))))
  (retM (binM gEqq (callM gLen (acons (varM 1) anil)) (cstM (.int 14))))))
abbrev f__law_right : FM := fnM 7 m__law_right
theorem cal__law_right (T : Txt K mg ec) (SB : SysM base) : Cal PR w K mg base ec 4 1 "_law_right" f__law_right :=
  cal_of (ps := ["thing"]) (N := N__law_right) (st := s__law_right) (k := 3) T.d__law_right ⟨rfl, rfl, rfl, by decide +kernel, rfl, by decide +kernel, by decide +kernel⟩ (fun _ _ _ _ _ _ us hl => match us, hl with | [_], _ => rfl) (by
  intro f cdv A outer s H E hr hg
  exact (pss_c (ps_s (by exact nd__law_right) (i := 1) (by rfl) (by exact .inl rfl) (pe_frz (pe_cal (by exact cal__law_pairs T SB) (by exact hr.mono (by decide)) (by exact hg) (by rfl) fn_tk (pa_c (pe_v 0) pa_n))))
  (pss_c (ps_f fn_po (by rfl) (pi_en (by rfl) (by exact T.b_enumerate) (pa_c (pe_v 1) pa_n)) (pg_tup (by rfl) (pgs_cons (pg_name (by exact nd__law_right) (i := 2) (by rfl) (by exact .inr rfl)) (pgs_cons (pg_name (by exact nd__law_right) (i := 3) (by rfl) (by exact .inl rfl)) pgs_nil))) (tg_tp (is := [2, 3])) (pss_c (ps_s (by exact nd__law_right) (i := 4) (by rfl) (by exact .inl rfl) (pe_frz (pe_ls (pa_c pe_cb (pa_c pe_cb (pa_c pe_cb (pa_c pe_cb (pa_c pe_cb pa_n))))))))
  (pss_c (ps_i (pt_eq (by exact hr.units) (pe_v 2) pe_ci) (pss_1 (ps_s (by exact nd__law_right) (i := 4) (by rfl) (by exact .inl rfl) (pe_frz (pe_ls (pa_c pe_cb (pa_c pe_cb (pa_c pe_cb (pa_c pe_cb (pa_c pe_cb pa_n))))))))) pss_n)
  (pss_c (ps_i (pt_eq (by exact hr.units) (pe_v 2) pe_ci) (pss_1 (ps_s (by exact nd__law_right) (i := 4) (by rfl) (by exact .inl rfl) (pe_frz (pe_ls (pa_c pe_cb (pa_c pe_cb (pa_c pe_cb (pa_c pe_cb (pa_c pe_cb pa_n))))))))) pss_n)
  (pss_1 (ps_f fn_po (by rfl) (pi_any (pe_v 3)) (pg_name (by exact nd__law_right) (by rfl) (by exact .inl rfl)) tg_nm (pss_c (ps_i (pw_o (pt_ne (by exact hr.units) (pe_cal (by exact cal__law_marks T SB) (by exact hr.mono (by decide)) (by exact hg) (by rfl) fn_tk (pa_c (pe_v 5) pa_n)) (pe_comp (own := [("k", 6)]) (by rfl) (by exact nd__law_right) (pi_rg1 (by rfl) (by exact T.b_range) (pa_c pe_ci pa_n)) (blkOk_by (N := N__law_right) (sc := defScope s__law_right) (own := [("k", 6)]) (by decide +kernel)) (fun _ _ _ _ _ => (pg_name (by exact nd__law_right) (by rfl) (by exact .inl rfl))) (fun _ _ _ _ _ => pts_n) (fun _ _ _ _ _ => (pe_eq (by exact hr.units) (pe_v 6) (pe_v 2))) tg_nm (by decide))) (pw_o1 (pt_ne (by exact hr.units) (pe_cal (by exact cal__law_above T SB) (by exact hr.mono (by decide)) (by exact hg) (by rfl) fn_tk (pa_c (pe_v 5) pa_n)) (pe_v 4)))).pt (pss_1 (ps_r pe_cb)) pss_n)
  (pss_1 (ps_i (pt_ne (by exact hr.units) (pe_cB (call_repr (by exact SB) (by exact hg) (by exact hr.units)) snd_repr (by rfl) (by exact T.b_repr) (by decide +kernel) (pa_c (pe_cal (by exact cal__law_field T SB) (by exact hr.mono (by decide)) (by exact hg) (by rfl) fn_tk (pa_c (pe_v 5) (pa_c (pe_v 2) pa_n))) pa_n)) (pe_cB (call_repr (by exact SB) (by exact hg) (by exact hr.units)) snd_repr (by rfl) (by exact T.b_repr) (by decide +kernel) (pa_c (pe_v 0) pa_n))) (pss_1 (ps_r pe_cb)) pss_n)))))))))
  (pss_1 (ps_r (pe_eq (by exact hr.units) (pe_cB call_len snd_len (by rfl) (by exact T.b_len) (by decide +kernel) (pa_c (pe_v 1) pa_n)) pe_ci))))))

abbrev s_law : Stmt := topS 25
abbrev N_law : List Str := ["script", "some", "m", "lap", "found", "e", "plain"]
theorem nd_law : N_law.Nodup := by decide +kernel
def m_law : SM := (seqM (setM 1 (frzM (lstM (acons (cstM .none) (acons (cstM (.int 0)) (acons (unM gNeg (cstM (.int 1))) (acons (cstM (.bool true)) (acons (cstM (.str "")) (acons (cstM (.str "form")) (acons (tupM anil) (acons (tupM (acons (cstM (.int 1)) (acons (cstM (.int 2)) anil))) (acons (tupM (acons (tupM (acons (cstM (.int 0)) (acons (cstM (.int 1)) anil))) (acons (cstM (.int 0)) anil))) (acons (lstM (acons (cstM (.int 1)) anil)) (acons (lstM (acons (lstM anil) anil)) (acons (fun _ st => .ok (.fr (.dk [])) st) (acons (dctM ["a"] (aof [(cstM (.int 1))])) (acons (binM gPow (cstM (.int 10)) (cstM (.int 30))) (acons (cstM (.str "a b")) anil))))))))))))))))))
  (seqM (setO 2 (callF 1 f__law_begun (acons (varM 0) anil)))
  (seqM (frM (rng1I (acons (binM gAdd (cstM (.int 3)) (callM gMin (acons (cstM (.int 9)) (acons (callM gLen (acons (varM 0) anil)) anil)))) anil)) (.nm 3) (ifS (orM (notM (truM (callF 1 f__law_right (acons (callF 2 f__law_of (acons (varM 2) (acons (varM 1) anil))) anil)))) (notM (truM (callF 1 f__law_right (acons (tupM (acons (callF 2 f__law_draw (acons (varM 2) (acons (cstM (.int 99)) anil))) (acons (callF 2 f__law_of (acons (varM 2) (acons (varM 1) anil))) anil))) anil))))) (retM (cstM (.bool false))) nilM))
  (seqM (setM 4 (lstM anil))
  (seqM (tryM (raiM 1 (cstM (.str "kinds"))) [([true, true, true, true, true, true, true, true, true, true, true, true, true, false, false], (some 5), (appM 4 (varM 5)))])
  (seqM (setM 6 (frzM (mkP 0 (cstM (.str "no rule")))))
  (seqM (ifS (binM gNeq (callF 1 f__law_above (acons (varM 6) anil)) (lstM (acons (cstM (.bool true)) (acons (cstM (.bool true)) (acons (cstM (.bool false)) (acons (cstM (.bool false)) (acons (cstM (.bool false)) anil))))))) (retM (cstM (.bool false))) nilM)
  (retM (andV (binM gEqq (callF 1 f__law_marks (acons (varM 6) anil)) (binM gMul (lstM (acons (cstM (.bool false)) anil)) (cstM (.int 14)))) (binM gEqq (callM gLen (acons (varM 4) anil)) (cstM (.int 1))))))))))))
abbrev f_law : FM := fnM 7 m_law
theorem cal_law (T : Txt K mg ec) (SB : SysM base) : Cal PR w K mg base ec 5 1 "law" f_law := by
  refine cal_of (ps := ["script"]) (N := N_law) (st := s_law) (k := 4) T.d_law ⟨rfl, rfl, rfl, by decide +kernel, rfl, by decide +kernel, by decide +kernel⟩ (fun _ _ _ _ _ _ us hl => match us, hl with | [_], _ => rfl) fun f cdv A outer s H E hr hg => ?_
  obtain ⟨cs_h_ShareError, t_h_ShareError⟩ := hd_one (X := cxOf (L2.CX PR w) PR w K mg base N_law "law" (defScope s_law) f cdv A outer s H E) T.h_ShareError (by rfl)
  exact (pss_c (ps_s (by exact nd_law) (i := 1) (by rfl) (by exact .inl rfl) (pe_frz (pe_ls (pa_c pe_cn (pa_c pe_ci (pa_c (pe_ng pe_ci) (pa_c pe_cb (pa_c pe_cs (pa_c pe_cs (pa_c (pe_tu pa_n) (pa_c (pe_tu (pa_c pe_ci (pa_c pe_ci pa_n))) (pa_c (pe_tu (pa_c (pe_tu (pa_c pe_ci (pa_c pe_ci pa_n))) (pa_c pe_ci pa_n))) (pa_c (pe_ls (pa_c pe_ci pa_n)) (pa_c (pe_ls (pa_c (pe_ls pa_n) pa_n)) (pa_c pe_d0 (pa_c (pe_dct (ks := ["a"]) (ms := [(cstM (.int 1))]) (by exact (pps_cons pe_cs (pe_frz pe_ci) pps_nil)) rfl) (pa_c (pe_pw pe_ci pe_ci) (pa_c pe_cs pa_n))))))))))))))))))
  (pss_c (ps_so (by exact nd_law) (i := 2) (by rfl) (by exact .inl rfl) (pe_cal (by exact cal__law_begun T SB) (by exact hr.mono (by decide)) (by exact hg) (by rfl) fn_tk (pa_c (pe_v 0) pa_n)))
  (pss_c (ps_f fn_po (by rfl) (pi_rg1 (by rfl) (by exact T.b_range) (pa_c (pe_add pe_ci (pe_cB (call_min2 (by rfl)) snd_min (by rfl) (by exact T.b_min) (by decide +kernel) (pa_c pe_ci (pa_c (pe_cB call_len snd_len (by rfl) (by exact T.b_len) (by decide +kernel) (pa_c (pe_v 0) pa_n)) pa_n)))) pa_n)) (pg_name (by exact nd_law) (by rfl) (by exact .inl rfl)) tg_nm (pss_1 (ps_i (pw_o (pt_n (pt_tru (pe_cal (by exact cal__law_right T SB) (by exact hr.mono (by decide)) (by exact hg) (by rfl) fn_tk (pa_c (pe_cal (by exact cal__law_of T SB) (by exact hr.mono (by decide)) (by exact hg) (by rfl) fn_tk (pa_c (pe_v 2) (pa_c (pe_v 1) pa_n))) pa_n)))) (pw_o1 (pt_n (pt_tru (pe_cal (by exact cal__law_right T SB) (by exact hr.mono (by decide)) (by exact hg) (by rfl) fn_tk (pa_c (pe_tu (pa_c (pe_cal (by exact cal__law_draw T SB) (by exact hr.mono (by decide)) (by exact hg) (by rfl) fn_tk (pa_c (pe_v 2) (pa_c pe_ci pa_n))) (pa_c (pe_cal (by exact cal__law_of T SB) (by exact hr.mono (by decide)) (by exact hg) (by rfl) fn_tk (pa_c (pe_v 2) (pa_c (pe_v 1) pa_n))) pa_n))) pa_n)))))).pt (pss_1 (ps_r pe_cb)) pss_n)))
  (pss_c (ps_s (by exact nd_law) (i := 4) (by rfl) (by exact .inl rfl) (pe_ls pa_n))
  (pss_c (ps_ty (by rfl) (by rfl) (by rfl) (by exact nd_law) fn_tk (fun W pn xe htk hpo => (pss_1 (ps_raM (by exact T.e_BadRule) (by exact hr.mono (by decide)) (by rfl) htk (by rfl) pe_cs))) (.named ((t_h_ShareError).1 _) (t_h_ShareError).2 (i := 5) (by rfl) (by rfl) (fun a pn => (pss_1 (ps_ap (i := 4) (by rfl) (by first | exact Or.inl rfl | exact Or.inr (Or.inl rfl)) (pe_v 5)))) .nil))
  (pss_c (ps_s (by exact nd_law) (i := 6) (by rfl) (by exact .inl rfl) (pe_frz (pe_mkP (by exact T.e_ShareError) (by rfl) pe_cs)))
  (pss_c (ps_i (pt_ne (by exact hr.units) (pe_cal (by exact cal__law_above T SB) (by exact hr.mono (by decide)) (by exact hg) (by rfl) fn_tk (pa_c (pe_v 6) pa_n)) (pe_ls (pa_c pe_cb (pa_c pe_cb (pa_c pe_cb (pa_c pe_cb (pa_c pe_cb pa_n))))))) (pss_1 (ps_r pe_cb)) pss_n)
  (pss_1 (ps_r (pe_a (pe_eq (by exact hr.units) (pe_cal (by exact cal__law_marks T SB) (by exact hr.mono (by decide)) (by exact hg) (by rfl) fn_tk (pa_c (pe_v 6) pa_n)) (pe_ml (pe_ls (pa_c pe_cb pa_n)) pe_ci)) (pe_1 (pe_eq (by exact hr.units) (pe_cB call_len snd_len (by rfl) (by exact T.b_len) (by decide +kernel) (pa_c (pe_v 4) pa_n)) pe_ci))))))))))))
theorem fnG_law (T : Txt K mg ec) (SB : SysM base) {f : Addr} {fd : FuncData} (F : Fun K "law" "law" s_law f fd) : FnG PR w K mg base (L2.CX PR w) 5 f fd ["script"] (spOf ⟨K, ec⟩ 1 f_law) :=
  fn_ok (ps := ["script"]) (N := N_law) (k := 4) F ⟨rfl, rfl, rfl, by decide +kernel, rfl, by decide +kernel, by decide +kernel⟩ (by
  intro cdv A outer s H E hr hg
  obtain ⟨cs_h_ShareError, t_h_ShareError⟩ := hd_one (X := cxOf (L2.CX PR w) PR w K mg base N_law "law" (defScope s_law) f cdv A outer s H E) T.h_ShareError (by rfl)
  exact (pss_c (ps_s (by exact nd_law) (i := 1) (by rfl) (by exact .inl rfl) (pe_frz (pe_ls (pa_c pe_cn (pa_c pe_ci (pa_c (pe_ng pe_ci) (pa_c pe_cb (pa_c pe_cs (pa_c pe_cs (pa_c (pe_tu pa_n) (pa_c (pe_tu (pa_c pe_ci (pa_c pe_ci pa_n))) (pa_c (pe_tu (pa_c (pe_tu (pa_c pe_ci (pa_c pe_ci pa_n))) (pa_c pe_ci pa_n))) (pa_c (pe_ls (pa_c pe_ci pa_n)) (pa_c (pe_ls (pa_c (pe_ls pa_n) pa_n)) (pa_c pe_d0 (pa_c (pe_dct (ks := ["a"]) (ms := [(cstM (.int 1))]) (by exact (pps_cons pe_cs (pe_frz pe_ci) pps_nil)) rfl) (pa_c (pe_pw pe_ci pe_ci) (pa_c pe_cs pa_n))))))))))))))))))
  (pss_c (ps_so (by exact nd_law) (i := 2) (by rfl) (by exact .inl rfl) (pe_cal (by exact cal__law_begun T SB) (by exact hr.mono (by decide)) (by exact hg) (by rfl) fn_tk (pa_c (pe_v 0) pa_n)))
  (pss_c (ps_f fn_po (by rfl) (pi_rg1 (by rfl) (by exact T.b_range) (pa_c (pe_add pe_ci (pe_cB (call_min2 (by rfl)) snd_min (by rfl) (by exact T.b_min) (by decide +kernel) (pa_c pe_ci (pa_c (pe_cB call_len snd_len (by rfl) (by exact T.b_len) (by decide +kernel) (pa_c (pe_v 0) pa_n)) pa_n)))) pa_n)) (pg_name (by exact nd_law) (by rfl) (by exact .inl rfl)) tg_nm (pss_1 (ps_i (pw_o (pt_n (pt_tru (pe_cal (by exact cal__law_right T SB) (by exact hr.mono (by decide)) (by exact hg) (by rfl) fn_tk (pa_c (pe_cal (by exact cal__law_of T SB) (by exact hr.mono (by decide)) (by exact hg) (by rfl) fn_tk (pa_c (pe_v 2) (pa_c (pe_v 1) pa_n))) pa_n)))) (pw_o1 (pt_n (pt_tru (pe_cal (by exact cal__law_right T SB) (by exact hr.mono (by decide)) (by exact hg) (by rfl) fn_tk (pa_c (pe_tu (pa_c (pe_cal (by exact cal__law_draw T SB) (by exact hr.mono (by decide)) (by exact hg) (by rfl) fn_tk (pa_c (pe_v 2) (pa_c pe_ci pa_n))) (pa_c (pe_cal (by exact cal__law_of T SB) (by exact hr.mono (by decide)) (by exact hg) (by rfl) fn_tk (pa_c (pe_v 2) (pa_c (pe_v 1) pa_n))) pa_n))) pa_n)))))).pt (pss_1 (ps_r pe_cb)) pss_n)))
  (pss_c (ps_s (by exact nd_law) (i := 4) (by rfl) (by exact .inl rfl) (pe_ls pa_n))
  (pss_c (ps_ty (by rfl) (by rfl) (by rfl) (by exact nd_law) fn_tk (fun W pn xe htk hpo => (pss_1 (ps_raM (by exact T.e_BadRule) (by exact hr.mono (by decide)) (by rfl) htk (by rfl) pe_cs))) (.named ((t_h_ShareError).1 _) (t_h_ShareError).2 (i := 5) (by rfl) (by rfl) (fun a pn => (pss_1 (ps_ap (i := 4) (by rfl) (by first | exact Or.inl rfl | exact Or.inr (Or.inl rfl)) (pe_v 5)))) .nil))
  (pss_c (ps_s (by exact nd_law) (i := 6) (by rfl) (by exact .inl rfl) (pe_frz (pe_mkP (by exact T.e_ShareError) (by rfl) pe_cs)))
  (pss_c (ps_i (pt_ne (by exact hr.units) (pe_cal (by exact cal__law_above T SB) (by exact hr.mono (by decide)) (by exact hg) (by rfl) fn_tk (pa_c (pe_v 6) pa_n)) (pe_ls (pa_c pe_cb (pa_c pe_cb (pa_c pe_cb (pa_c pe_cb (pa_c pe_cb pa_n))))))) (pss_1 (ps_r pe_cb)) pss_n)
  (pss_1 (ps_r (pe_a (pe_eq (by exact hr.units) (pe_cal (by exact cal__law_marks T SB) (by exact hr.mono (by decide)) (by exact hg) (by rfl) fn_tk (pa_c (pe_v 6) pa_n)) (pe_ml (pe_ls (pa_c pe_cb pa_n)) pe_ci)) (pe_1 (pe_eq (by exact hr.units) (pe_cB call_len snd_len (by rfl) (by exact T.b_len) (by decide +kernel) (pa_c (pe_v 4) pa_n)) pe_ci)))))))))))))
end
end Pl.Law

set_option Elab.async false
set_option linter.all false
set_option maxRecDepth 100000
set_option maxHeartbeats 4000000
namespace Pl.Law
open PySem PySem.Spec PyProof.Rows L2 PySem.W Pl
def cD (cs : List Int) (l s : Int) : Cn := .dk [(.inr "cells", .list (cs.map .int)), (.inr "left", .int l), (.inr "spot", .int s)]
theorem gMul_r {i j : Int} (h1 : -(2 ^ 64) < j) (h2 : j < 2 ^ 64) : gMul (.dat (.int i)) (.dat (.int j)) = some (.dat (.int (i * j))) := by
  have : cMul i j = true := by
    unfold cMul
    rw [Bool.or_eq_true, decide_eq_true_eq, decide_eq_true_eq]
    exact .inr ⟨h1, h2⟩
  show ((if cMul i j then some (Val.dat (.int (i * j))) else none).or _) = _
  rw [if_pos this]
  rfl
def dT : EM := binM gGt (getM (varM 0) (cstM (.str "left"))) (cstM (.int 0))
def dA : SM := (seqM (setM 2 (frzM (binM gMod (callM gInt (acons (getM (varM 0) (cstM (.str "left"))) anil)) (varM 1))))
  (seqM (putM (varM 0) (cstM (.str "left")) (binM gDiv (getM (varM 0) (cstM (.str "left"))) (varM 1)))
  (retM (varM 2))))
def d3 : SM := setM 3 (frzM (binM gAdd (getM (varM 0) (cstM (.str "spot"))) (cstM (.int 1))))
def p3 : SM := putM (varM 0) (cstM (.str "spot")) (varM 3)
def d4 : SM := setM 4 (frzM (binM gIx (getM (varM 0) (cstM (.str "cells"))) (binM gMod (callM gInt (acons (varM 3) anil)) (callM gLen (acons (getM (varM 0) (cstM (.str "cells"))) anil)))))
def d5 : SM := setM 5 (frzM (binM gMul (callM gInt (acons (binM gAdd (binM gAdd (binM gMod (callM gInt (acons (varM 4) anil)) (cstM (.int 2147483629))) (binM gMul (cstM (.int 6133)) (varM 3))) (binM gMul (binM gMul (cstM (.int 23)) (varM 3)) (varM 3))) anil)) (cstM (.int 48271))))
def d6 : SM := setM 5 (frzM (binM gMul (callM gInt (acons (binM gAdd (binM gMod (callM gInt (acons (varM 5) anil)) (cstM (.int 2147483647))) (binM gMul (cstM (.int 93241)) (varM 3))) anil)) (cstM (.int 69621))))
def dR : SM := retM (binM gMod (callM gInt (acons (binM gDiv (binM gMod (callM gInt (acons (varM 5) anil)) (cstM (.int 2147483587))) (cstM (.int 13))) anil)) (varM 1))
theorem draw_split : m__law_draw = seqM (ifS dT dA nilM) (seqM d3 (seqM p3 (seqM d4 (seqM d5 (seqM d6 dR))))) := rfl
abbrev e0 (many : Int) : Env := [some (.obj 0), some (.dat (.int many)), none, none, none, none]
theorem dT_ok (many : Int) (cs : List Int) (l s : Int) : dT (e0 many) [cD cs l s] = .ok (.dat (.bool (decide (0 < l)))) [cD cs l s] := by kernel_rfl
theorem d3_ok (many : Int) (cs : List Int) (l s : Int) : d3 (e0 many) [cD cs l s] = .nx [some (.obj 0), some (.dat (.int many)), none, some (.dat (.int (s + 1))), none, none] [cD cs l s] := by kernel_rfl
theorem p3_ok (many : Int) (cs : List Int) (l s : Int) : p3 [some (.obj 0), some (.dat (.int many)), none, some (.dat (.int (s + 1))), none, none] [cD cs l s] = .nx [some (.obj 0), some (.dat (.int many)), none, some (.dat (.int (s + 1))), none, none] [cD cs l (s + 1)] := by kernel_rfl
theorem at_ok {cs : List Int} {i : Int} (h0 : 0 ≤ i) (h1 : i < cs.length) : ∃ c : Int, atI (cs.map PyData.int) i = some (.int c) := by
  have hl : i.toNat < cs.length := by omega
  refine ⟨cs[i.toNat], ?_⟩
  unfold atI ixN
  rw [if_pos h0, if_pos (by simpa using h1)]
  simp [hl]
theorem d4_ok (many : Int) (cs : List Int) (l s : Int) (hc : cs ≠ []) : ∃ c : Int, d4 [some (.obj 0), some (.dat (.int many)), none, some (.dat (.int s)), none, none] [cD cs l s] = .nx [some (.obj 0), some (.dat (.int many)), none, some (.dat (.int s)), some (.dat (.int c)), none] [cD cs l s] := by
  obtain ⟨env, he⟩ : ∃ env : Env, env = [some (.obj 0), some (.dat (.int many)), none, some (.dat (.int s)), none, none] := ⟨_, rfl⟩
  have hp : (0 : Int) < ((cs.map PyData.int).length : Nat) := by
    rw [List.length_map]
    have := List.length_pos_iff.mpr hc
    omega
  have e1 : getM (varM 0) (cstM (.str "cells")) env [cD cs l s] = .ok (.dat (.list (cs.map .int))) [cD cs l s] := by subst he; kernel_rfl
  have e2 : callM gLen (acons (getM (varM 0) (cstM (.str "cells"))) anil) env [cD cs l s] = .ok (.dat (.int (((cs.map PyData.int).length : Nat) : Int))) [cD cs l s] := by subst he; kernel_rfl
  have e3 : callM gInt (acons (varM 3) anil) env [cD cs l s] = .ok (.dat (.int s)) [cD cs l s] := by subst he; kernel_rfl
  have e4 : binM gMod (callM gInt (acons (varM 3) anil)) (callM gLen (acons (getM (varM 0) (cstM (.str "cells"))) anil)) env [cD cs l s] = .ok (.dat (.int (s % (((cs.map PyData.int).length : Nat) : Int)))) [cD cs l s] := by
    show Ou.bind (callM gInt (acons (varM 3) anil) env [cD cs l s]) _ = _
    rw [e3]
    show Ou.bind (callM gLen (acons (getM (varM 0) (cstM (.str "cells"))) anil) env [cD cs l s]) _ = _
    rw [e2]
    show Ou.of _ (if decide ((0 : Int) < (((cs.map PyData.int).length : Nat) : Int)) = true then _ else none) = _
    rw [if_pos (decide_eq_true hp)]
    rfl
  obtain ⟨c, hat⟩ := at_ok (cs := cs) (i := s % (((cs.map PyData.int).length : Nat) : Int)) (Int.emod_nonneg _ (by omega)) (by
    have := Int.emod_lt_of_pos s hp
    rw [List.length_map] at this ⊢
    exact this)
  have e5 : binM gIx (getM (varM 0) (cstM (.str "cells"))) (binM gMod (callM gInt (acons (varM 3) anil)) (callM gLen (acons (getM (varM 0) (cstM (.str "cells"))) anil))) env [cD cs l s] = .ok (.dat (.int c)) [cD cs l s] := by
    show Ou.bind (getM (varM 0) (cstM (.str "cells")) env [cD cs l s]) _ = _
    rw [e1]
    show Ou.bind (binM gMod (callM gInt (acons (varM 3) anil)) (callM gLen (acons (getM (varM 0) (cstM (.str "cells"))) anil)) env [cD cs l s]) _ = _
    rw [e4]
    show Ou.of _ ((atI (cs.map PyData.int) _).map Val.dat) = _
    rw [hat]
    rfl
  refine ⟨c, ?_⟩
  rw [← he]
  show Ou.bindS (Ou.bind (binM gIx (getM (varM 0) (cstM (.str "cells"))) (binM gMod (callM gInt (acons (varM 3) anil)) (callM gLen (acons (getM (varM 0) (cstM (.str "cells"))) anil))) env [cD cs l s]) fun v st1 => Ou.of st1 v.frz) env _ = _
  rw [e5]
  subst he
  rfl
theorem d5_ok (many : Int) (st : List Cn) (s c : Int) (h1 : -(2 ^ 64) < s) (h2 : s < 2 ^ 64) : d5 [some (.obj 0), some (.dat (.int many)), none, some (.dat (.int s)), some (.dat (.int c)), none] st = .nx [some (.obj 0), some (.dat (.int many)), none, some (.dat (.int s)), some (.dat (.int c)), some (.dat (.int ((c % 2147483629 + 6133 * s + 23 * s * s) * 48271)))] st := by
  obtain ⟨env, he⟩ : ∃ env : Env, env = [some (.obj 0), some (.dat (.int many)), none, some (.dat (.int s)), some (.dat (.int c)), none] := ⟨_, rfl⟩
  have e1 : binM gMul (binM gMul (cstM (.int 23)) (varM 3)) (varM 3) env st = .ok (.dat (.int (23 * s * s))) st := by
    subst he
    show Ou.of st (gMul (.dat (.int (23 * s))) (.dat (.int s))) = _
    rw [gMul_r h1 h2]
    rfl
  have e2 : binM gAdd (binM gAdd (binM gMod (callM gInt (acons (varM 4) anil)) (cstM (.int 2147483629))) (binM gMul (cstM (.int 6133)) (varM 3))) (binM gMul (binM gMul (cstM (.int 23)) (varM 3)) (varM 3)) env st = .ok (.dat (.int (c % 2147483629 + 6133 * s + 23 * s * s))) st := by
    show Ou.bind (binM gAdd (binM gMod (callM gInt (acons (varM 4) anil)) (cstM (.int 2147483629))) (binM gMul (cstM (.int 6133)) (varM 3)) env st) _ = _
    rw [show binM gAdd (binM gMod (callM gInt (acons (varM 4) anil)) (cstM (.int 2147483629))) (binM gMul (cstM (.int 6133)) (varM 3)) env st = .ok (.dat (.int (c % 2147483629 + 6133 * s))) st from by subst he; kernel_rfl]
    show Ou.bind (binM gMul (binM gMul (cstM (.int 23)) (varM 3)) (varM 3) env st) _ = _
    rw [e1]
    rfl
  have e3 : callM gInt (acons (binM gAdd (binM gAdd (binM gMod (callM gInt (acons (varM 4) anil)) (cstM (.int 2147483629))) (binM gMul (cstM (.int 6133)) (varM 3))) (binM gMul (binM gMul (cstM (.int 23)) (varM 3)) (varM 3))) anil) env st = .ok (.dat (.int (c % 2147483629 + 6133 * s + 23 * s * s))) st := by
    show OuL.bind (Ou.bindL (binM gAdd (binM gAdd (binM gMod (callM gInt (acons (varM 4) anil)) (cstM (.int 2147483629))) (binM gMul (cstM (.int 6133)) (varM 3))) (binM gMul (binM gMul (cstM (.int 23)) (varM 3)) (varM 3)) env st) _) _ = _
    rw [e2]
    rfl
  rw [← he]
  show Ou.bindS (Ou.bind (Ou.bind (callM gInt (acons (binM gAdd (binM gAdd (binM gMod (callM gInt (acons (varM 4) anil)) (cstM (.int 2147483629))) (binM gMul (cstM (.int 6133)) (varM 3))) (binM gMul (binM gMul (cstM (.int 23)) (varM 3)) (varM 3))) anil) env st) fun v st1 => (cstM (.int 48271) env st1).bind fun w st2 => Ou.of st2 (gMul v w)) fun v st1 => Ou.of st1 v.frz) env _ = _
  rw [e3]
  show Ou.bindS (Ou.bind (Ou.of st (gMul (.dat (.int (c % 2147483629 + 6133 * s + 23 * s * s))) (.dat (.int 48271)))) fun v st1 => Ou.of st1 v.frz) env _ = _
  rw [gMul_r (by decide) (by decide)]
  subst he
  rfl
theorem d6_ok (many : Int) (st : List Cn) (s c x : Int) : d6 [some (.obj 0), some (.dat (.int many)), none, some (.dat (.int s)), some (.dat (.int c)), some (.dat (.int x))] st = .nx [some (.obj 0), some (.dat (.int many)), none, some (.dat (.int s)), some (.dat (.int c)), some (.dat (.int ((x % 2147483647 + 93241 * s) * 69621)))] st := by
  obtain ⟨env, he⟩ : ∃ env : Env, env = [some (.obj 0), some (.dat (.int many)), none, some (.dat (.int s)), some (.dat (.int c)), some (.dat (.int x))] := ⟨_, rfl⟩
  rw [← he]
  show Ou.bindS (Ou.bind (Ou.bind (callM gInt (acons (binM gAdd (binM gMod (callM gInt (acons (varM 5) anil)) (cstM (.int 2147483647))) (binM gMul (cstM (.int 93241)) (varM 3))) anil) env st) fun v st1 => (cstM (.int 69621) env st1).bind fun w st2 => Ou.of st2 (gMul v w)) fun v st1 => Ou.of st1 v.frz) env _ = _
  rw [show callM gInt (acons (binM gAdd (binM gMod (callM gInt (acons (varM 5) anil)) (cstM (.int 2147483647))) (binM gMul (cstM (.int 93241)) (varM 3))) anil) env st = .ok (.dat (.int (x % 2147483647 + 93241 * s))) st from by subst he; kernel_rfl]
  show Ou.bindS (Ou.bind (Ou.of st (gMul (.dat (.int (x % 2147483647 + 93241 * s))) (.dat (.int 69621)))) fun v st1 => Ou.of st1 v.frz) env _ = _
  rw [gMul_r (by decide) (by decide)]
  subst he
  rfl
/-- the draws: the answer is from 0 on and less than many -/
def DrawOk (many : Int) : Prop := ∀ (cs : List Int) (l s : Int), cs ≠ [] → 0 ≤ s → s < 1000000 → ∃ v l' s', f__law_draw [.obj 0, .dat (.int many)] [cD cs l s] = .ok (.dat (.int v)) [cD cs l' s'] ∧ 0 ≤ v ∧ v < many ∧ 0 ≤ s' ∧ s' ≤ s + 1
theorem draw_gen (many : Int) (hm : 0 < many) (hA : ∀ (cs : List Int) (l s : Int), dA (e0 many) [cD cs l s] = .ret (.dat (.int (l % many))) [cD cs (l / many) s])
    (hR : ∀ (st : List Cn) (s c x : Int), dR [some (.obj 0), some (.dat (.int many)), none, some (.dat (.int s)), some (.dat (.int c)), some (.dat (.int x))] st = .ret (.dat (.int (x % 2147483587 / 13 % many))) st) : DrawOk many := by
  intro cs l s hc h0 h1
  have key : m__law_draw (e0 many) [cD cs l s] = (match Ou.bindS (dT (e0 many) [cD cs l s]) (e0 many) (fun v st1 => match v with | .dat (.bool true) => dA (e0 many) st1 | .dat (.bool false) => nilM (e0 many) st1 | _ => .stk) with
      | .nx env st => seqM d3 (seqM p3 (seqM d4 (seqM d5 (seqM d6 dR)))) env st
      | o => o) := by
    rw [draw_split]
    rfl
  by_cases hl : 0 < l
  · refine ⟨l % many, l / many, s, ?_, Int.emod_nonneg _ (by omega), Int.emod_lt_of_pos _ hm, h0, by omega⟩
    show (m__law_draw (e0 many) [cD cs l s]).fin = _
    rw [key, dT_ok, decide_eq_true hl]
    show (match dA (e0 many) [cD cs l s] with | .nx env st => seqM d3 (seqM p3 (seqM d4 (seqM d5 (seqM d6 dR)))) env st | o => o).fin = _
    rw [hA]
    rfl
  · obtain ⟨c, h4⟩ := d4_ok many cs l (s + 1) hc
    refine ⟨((c % 2147483629 + 6133 * (s + 1) + 23 * (s + 1) * (s + 1)) * 48271 % 2147483647 + 93241 * (s + 1)) * 69621 % 2147483587 / 13 % many, l, s + 1, ?_, Int.emod_nonneg _ (by omega), Int.emod_lt_of_pos _ hm, by omega, by omega⟩
    show (m__law_draw (e0 many) [cD cs l s]).fin = _
    rw [key, dT_ok, decide_eq_false hl]
    show (seqM d3 (seqM p3 (seqM d4 (seqM d5 (seqM d6 dR)))) (e0 many) [cD cs l s]).fin = _
    rw [seqM, d3_ok]
    show (seqM p3 (seqM d4 (seqM d5 (seqM d6 dR))) _ _).fin = _
    rw [seqM, p3_ok]
    show (seqM d4 (seqM d5 (seqM d6 dR)) _ _).fin = _
    rw [seqM, h4]
    show (seqM d5 (seqM d6 dR) _ _).fin = _
    rw [seqM, d5_ok _ _ _ _ (by omega) (by omega)]
    show (seqM d6 dR _ _).fin = _
    rw [seqM, d6_ok]
    show (dR _ _).fin = _
    rw [hR]
    rfl
theorem draw99 : DrawOk 99 := draw_gen 99 (by decide) (fun cs l s => by kernel_rfl) (fun st s c x => by kernel_rfl)
theorem draw15 : DrawOk 15 := draw_gen 15 (by decide) (fun cs l s => by kernel_rfl) (fun st s c x => by kernel_rfl)
end Pl.Law

set_option Elab.async false
set_option linter.all false
set_option maxRecDepth 100000
set_option maxHeartbeats 1000000
namespace Pl.Law
open PySem PySem.Spec PyProof.Rows L2 PySem.W Pl
def Sml (d : D) : Prop := okD d = true ∧ d.showable = true ∧ d.depth ≤ 60 ∧ d.shown.length ≤ sizeLine
def rP : SM := (setM 1 (frzM (callF 1 f__law_pairs (acons (varM 0) anil))))
def rI : IM := (enuI (acons (varM 1) anil))
def q4 : SM := (setM 4 (frzM (lstM (acons (cstM (.bool true)) (acons (cstM (.bool true)) (acons (cstM (.bool false)) (acons (cstM (.bool false)) (acons (cstM (.bool false)) anil))))))))
def q8 : SM := (ifS (binM gEqq (varM 2) (cstM (.int 8))) (setM 4 (frzM (lstM (acons (cstM (.bool false)) (acons (cstM (.bool false)) (acons (cstM (.bool true)) (acons (cstM (.bool false)) (acons (cstM (.bool false)) anil)))))))) nilM)
def q13 : SM := (ifS (binM gEqq (varM 2) (cstM (.int 13))) (setM 4 (frzM (lstM (acons (cstM (.bool false)) (acons (cstM (.bool false)) (acons (cstM (.bool false)) (acons (cstM (.bool true)) (acons (cstM (.bool false)) anil)))))))) nilM)
def F1 : SM := (ifS (orM (binM gNeq (callF 1 f__law_marks (acons (varM 5) anil)) (compM (rng1I (acons (cstM (.int 14)) anil)) [6] (.nm 6) yesM (binM gEqq (varM 6) (varM 2)))) (binM gNeq (callF 1 f__law_above (acons (varM 5) anil)) (varM 4))) (retM (cstM (.bool false))) nilM)
def rA : AM := (acons (callF 2 f__law_field (acons (varM 5) (acons (varM 2) anil))) anil)
def rB : AM := (acons (varM 0) anil)
def F2 : SM := ifS (binM gNeq (callM gRepr rA) (callM gRepr rB)) (retM (cstM (.bool false))) nilM
def INN : SM := frM (seqI false (varM 3)) (.nm 5) (seqM F1 F2)
def OB : SM := seqM q4 (seqM q8 (seqM q13 INN))
def rR : SM := (retM (binM gEqq (callM gLen (acons (varM 1) anil)) (cstM (.int 14))))
theorem right_split : m__law_right = seqM rP (seqM (frM rI (.tp [2, 3]) OB) rR) := rfl
def cls_ : List Nat := [1, 7, 3, 4, 5, 6, 9, 12, 14, 2, 10, 11, 8, 13]
def pairsD (d : D) : D := .list (cls_.map fun c => .tuple [errD c d, errD c d])
abbrev EK (d : D) (k c : Nat) (e4 e5 : Option Val) : Env := [some (.dat d), some (.dat (pairsD d)), some (.dat (.int k)), some (.dat (.tuple [errD c d, errD c d])), e4, e5, none]
theorem rP_ok (d : D) (st : List Cn) : rP (envOf 7 [.dat d]) st = .nx [some (.dat d), some (.dat (pairsD d)), none, none, none, none, none] st := by kernel_rfl
theorem F2_ok {d : D} (h : Sml d) {env : Env} {st : List Cn} (hA : rA env st = .ok [.dat d] st) (hB : rB env st = .ok [.dat d] st) : F2 env st = .nx env st := by
  have hr : gRepr [.dat d] = some (.dat (.str d.shown)) := by
    show (if okD d = true ∧ d.showable = true ∧ d.depth ≤ 60 ∧ d.shown.length ≤ sizeLine then _ else _) = _
    rw [if_pos ⟨h.1, h.2.1, h.2.2.1, h.2.2.2⟩]
  have hn : gNeq (.dat (.str d.shown)) (.dat (.str d.shown)) = some (.dat (.bool false)) := by
    show (some (Val.dat (.bool (!decide (d.shown = d.shown))))).or _ = _
    rw [decide_eq_true rfl]
    rfl
  show Ou.bindS (Ou.bind (OuL.bind (rA env st) fun vs st1 => Ou.of st1 (gRepr vs)) fun v st1 => (OuL.bind (rB env st1) fun vs st1 => Ou.of st1 (gRepr vs)).bind fun w st2 => Ou.of st2 (gNeq v w)) env _ = _
  rw [hA]
  show Ou.bindS (Ou.bind (Ou.of st (gRepr [.dat d])) fun v st1 => (OuL.bind (rB env st1) fun vs st1 => Ou.of st1 (gRepr vs)).bind fun w st2 => Ou.of st2 (gNeq v w)) env _ = _
  rw [hr]
  show Ou.bindS ((OuL.bind (rB env st) fun vs st1 => Ou.of st1 (gRepr vs)).bind fun w st2 => Ou.of st2 (gNeq (.dat (.str d.shown)) w)) env _ = _
  rw [hB]
  show Ou.bindS ((Ou.of st (gRepr [.dat d])).bind fun w st2 => Ou.of st2 (gNeq (.dat (.str d.shown)) w)) env _ = _
  rw [hr]
  show Ou.bindS (Ou.of st (gNeq (.dat (.str d.shown)) (.dat (.str d.shown)))) env _ = _
  rw [hn]
  rfl
theorem item_gen {d : D} (h : Sml d) {k c : Nat} {e4 e5 : Option Val} {a : Val} {st : List Cn} (h1 : ∀ S : SM, seqM q4 (seqM q8 (seqM q13 S)) (EK d k c e4 e5) st = S (EK d k c (some a) e5) st) (h2 : F1 (EK d k c (some a) (some (.dat (errD c d)))) st = .nx (EK d k c (some a) (some (.dat (errD c d)))) st)
    (hA : rA (EK d k c (some a) (some (.dat (errD c d)))) st = .ok [.dat d] st) (hB : rB (EK d k c (some a) (some (.dat (errD c d)))) st = .ok [.dat d] st) : OB (EK d k c e4 e5) st = .nx (EK d k c (some a) (some (.dat (errD c d)))) st := by
  have hF : seqM F1 F2 (EK d k c (some a) (some (.dat (errD c d)))) st = .nx (EK d k c (some a) (some (.dat (errD c d)))) st := by
    rw [seqM, h2]
    exact F2_ok h hA hB
  show seqM q4 (seqM q8 (seqM q13 INN)) (EK d k c e4 e5) st = _
  rw [h1]
  show (match seqM F1 F2 (EK d k c (some a) (some (.dat (errD c d)))) st with
    | .nx env' st' => forM (.nm 5) (seqM F1 F2) [errD c d] env' st'
    | .cnt env' st' => forM (.nm 5) (seqM F1 F2) [errD c d] env' st'
    | .brk env' st' => .nx env' st'
    | o => o) = _
  rw [hF]
  show (match seqM F1 F2 (EK d k c (some a) (some (.dat (errD c d)))) st with
    | .nx env' st' => forM (.nm 5) (seqM F1 F2) [] env' st'
    | .cnt env' st' => forM (.nm 5) (seqM F1 F2) [] env' st'
    | .brk env' st' => .nx env' st'
    | o => o) = _
  rw [hF]
  rfl
theorem fstep {tg : Tg} {mt : SM} {i : D} {is : List D} {env env1 env2 : Env} {st : List Cn} (hb : bindT tg i env = some env1) (h : mt env1 st = .nx env2 st) : forM tg mt (i :: is) env st = forM tg mt is env2 st := by
  show (match bindT tg i env with
    | none => (.stk : Os)
    | some env1 => match mt env1 st with
      | .nx env' st' => forM tg mt is env' st'
      | .cnt env' st' => forM tg mt is env' st'
      | .brk env' st' => .nx env' st'
      | o => o) = _
  rw [hb]
  show (match mt env1 st with
      | .nx env' st' => forM tg mt is env' st'
      | .cnt env' st' => forM tg mt is env' st'
      | .brk env' st' => .nx env' st'
      | o => o) = _
  rw [h]
theorem it0 {d : D} (h : Sml d) (e4 e5 : Option Val) (st : List Cn) : OB (EK d 0 1 e4 e5) st = .nx (EK d 0 1 (some (.dat (.list ([true, true, false, false, false].map .bool)))) (some (.dat (errD 1 d)))) st :=
  item_gen h (fun S => by kernel_rfl) (by kernel_rfl) (by kernel_rfl) (by kernel_rfl)
theorem it1 {d : D} (h : Sml d) (e4 e5 : Option Val) (st : List Cn) : OB (EK d 1 7 e4 e5) st = .nx (EK d 1 7 (some (.dat (.list ([true, true, false, false, false].map .bool)))) (some (.dat (errD 7 d)))) st :=
  item_gen h (fun S => by kernel_rfl) (by kernel_rfl) (by kernel_rfl) (by kernel_rfl)
theorem it2 {d : D} (h : Sml d) (e4 e5 : Option Val) (st : List Cn) : OB (EK d 2 3 e4 e5) st = .nx (EK d 2 3 (some (.dat (.list ([true, true, false, false, false].map .bool)))) (some (.dat (errD 3 d)))) st :=
  item_gen h (fun S => by kernel_rfl) (by kernel_rfl) (by kernel_rfl) (by kernel_rfl)
theorem it3 {d : D} (h : Sml d) (e4 e5 : Option Val) (st : List Cn) : OB (EK d 3 4 e4 e5) st = .nx (EK d 3 4 (some (.dat (.list ([true, true, false, false, false].map .bool)))) (some (.dat (errD 4 d)))) st :=
  item_gen h (fun S => by kernel_rfl) (by kernel_rfl) (by kernel_rfl) (by kernel_rfl)
theorem it4 {d : D} (h : Sml d) (e4 e5 : Option Val) (st : List Cn) : OB (EK d 4 5 e4 e5) st = .nx (EK d 4 5 (some (.dat (.list ([true, true, false, false, false].map .bool)))) (some (.dat (errD 5 d)))) st :=
  item_gen h (fun S => by kernel_rfl) (by kernel_rfl) (by kernel_rfl) (by kernel_rfl)
theorem it5 {d : D} (h : Sml d) (e4 e5 : Option Val) (st : List Cn) : OB (EK d 5 6 e4 e5) st = .nx (EK d 5 6 (some (.dat (.list ([true, true, false, false, false].map .bool)))) (some (.dat (errD 6 d)))) st :=
  item_gen h (fun S => by kernel_rfl) (by kernel_rfl) (by kernel_rfl) (by kernel_rfl)
theorem it6 {d : D} (h : Sml d) (e4 e5 : Option Val) (st : List Cn) : OB (EK d 6 9 e4 e5) st = .nx (EK d 6 9 (some (.dat (.list ([true, true, false, false, false].map .bool)))) (some (.dat (errD 9 d)))) st :=
  item_gen h (fun S => by kernel_rfl) (by kernel_rfl) (by kernel_rfl) (by kernel_rfl)
theorem it7 {d : D} (h : Sml d) (e4 e5 : Option Val) (st : List Cn) : OB (EK d 7 12 e4 e5) st = .nx (EK d 7 12 (some (.dat (.list ([true, true, false, false, false].map .bool)))) (some (.dat (errD 12 d)))) st :=
  item_gen h (fun S => by kernel_rfl) (by kernel_rfl) (by kernel_rfl) (by kernel_rfl)
theorem it8 {d : D} (h : Sml d) (e4 e5 : Option Val) (st : List Cn) : OB (EK d 8 14 e4 e5) st = .nx (EK d 8 14 (some (.dat (.list ([false, false, true, false, false].map .bool)))) (some (.dat (errD 14 d)))) st :=
  item_gen h (fun S => by kernel_rfl) (by kernel_rfl) (by kernel_rfl) (by kernel_rfl)
theorem it9 {d : D} (h : Sml d) (e4 e5 : Option Val) (st : List Cn) : OB (EK d 9 2 e4 e5) st = .nx (EK d 9 2 (some (.dat (.list ([true, true, false, false, false].map .bool)))) (some (.dat (errD 2 d)))) st :=
  item_gen h (fun S => by kernel_rfl) (by kernel_rfl) (by kernel_rfl) (by kernel_rfl)
theorem it10 {d : D} (h : Sml d) (e4 e5 : Option Val) (st : List Cn) : OB (EK d 10 10 e4 e5) st = .nx (EK d 10 10 (some (.dat (.list ([true, true, false, false, false].map .bool)))) (some (.dat (errD 10 d)))) st :=
  item_gen h (fun S => by kernel_rfl) (by kernel_rfl) (by kernel_rfl) (by kernel_rfl)
theorem it11 {d : D} (h : Sml d) (e4 e5 : Option Val) (st : List Cn) : OB (EK d 11 11 e4 e5) st = .nx (EK d 11 11 (some (.dat (.list ([true, true, false, false, false].map .bool)))) (some (.dat (errD 11 d)))) st :=
  item_gen h (fun S => by kernel_rfl) (by kernel_rfl) (by kernel_rfl) (by kernel_rfl)
theorem it12 {d : D} (h : Sml d) (e4 e5 : Option Val) (st : List Cn) : OB (EK d 12 8 e4 e5) st = .nx (EK d 12 8 (some (.dat (.list ([true, true, false, false, false].map .bool)))) (some (.dat (errD 8 d)))) st :=
  item_gen h (fun S => by kernel_rfl) (by kernel_rfl) (by kernel_rfl) (by kernel_rfl)
theorem it13 {d : D} (h : Sml d) (e4 e5 : Option Val) (st : List Cn) : OB (EK d 13 13 e4 e5) st = .nx (EK d 13 13 (some (.dat (.list ([false, false, false, true, false].map .bool)))) (some (.dat (errD 13 d)))) st :=
  item_gen h (fun S => by kernel_rfl) (by kernel_rfl) (by kernel_rfl) (by kernel_rfl)
def itemsD (d : D) : List D := [.tuple [.int 0, .tuple [errD 1 d, errD 1 d]], .tuple [.int 1, .tuple [errD 7 d, errD 7 d]], .tuple [.int 2, .tuple [errD 3 d, errD 3 d]], .tuple [.int 3, .tuple [errD 4 d, errD 4 d]], .tuple [.int 4, .tuple [errD 5 d, errD 5 d]], .tuple [.int 5, .tuple [errD 6 d, errD 6 d]], .tuple [.int 6, .tuple [errD 9 d, errD 9 d]], .tuple [.int 7, .tuple [errD 12 d, errD 12 d]], .tuple [.int 8, .tuple [errD 14 d, errD 14 d]], .tuple [.int 9, .tuple [errD 2 d, errD 2 d]], .tuple [.int 10, .tuple [errD 10 d, errD 10 d]], .tuple [.int 11, .tuple [errD 11 d, errD 11 d]], .tuple [.int 12, .tuple [errD 8 d, errD 8 d]], .tuple [.int 13, .tuple [errD 13 d, errD 13 d]]]
theorem rI_ok (d : D) (st : List Cn) : rI [some (.dat d), some (.dat (pairsD d)), none, none, none, none, none] st = .ok (itemsD d) st := by kernel_rfl
theorem rR_ok (d : D) (e4 e5 : Option Val) (st : List Cn) : rR (EK d 13 13 e4 e5) st = .ret (.dat (.bool true)) st := by kernel_rfl
theorem loop14 {d : D} (h : Sml d) (st : List Cn) : frM rI (.tp [2, 3]) OB [some (.dat d), some (.dat (pairsD d)), none, none, none, none, none] st = .nx (EK d 13 13 (some (.dat (.list ([false, false, false, true, false].map .bool)))) (some (.dat (errD 13 d)))) st := by
  rw [frM, rI_ok]
  show forM (.tp [2, 3]) OB (itemsD d) _ st = _
  unfold itemsD
  rw [fstep (env1 := EK d 0 1 none none) rfl (it0 h _ _ st)]
  rw [fstep (env1 := EK d 1 7 (some (.dat (.list ([true, true, false, false, false].map .bool)))) (some (.dat (errD 1 d)))) rfl (it1 h _ _ st)]
  rw [fstep (env1 := EK d 2 3 (some (.dat (.list ([true, true, false, false, false].map .bool)))) (some (.dat (errD 7 d)))) rfl (it2 h _ _ st)]
  rw [fstep (env1 := EK d 3 4 (some (.dat (.list ([true, true, false, false, false].map .bool)))) (some (.dat (errD 3 d)))) rfl (it3 h _ _ st)]
  rw [fstep (env1 := EK d 4 5 (some (.dat (.list ([true, true, false, false, false].map .bool)))) (some (.dat (errD 4 d)))) rfl (it4 h _ _ st)]
  rw [fstep (env1 := EK d 5 6 (some (.dat (.list ([true, true, false, false, false].map .bool)))) (some (.dat (errD 5 d)))) rfl (it5 h _ _ st)]
  rw [fstep (env1 := EK d 6 9 (some (.dat (.list ([true, true, false, false, false].map .bool)))) (some (.dat (errD 6 d)))) rfl (it6 h _ _ st)]
  rw [fstep (env1 := EK d 7 12 (some (.dat (.list ([true, true, false, false, false].map .bool)))) (some (.dat (errD 9 d)))) rfl (it7 h _ _ st)]
  rw [fstep (env1 := EK d 8 14 (some (.dat (.list ([true, true, false, false, false].map .bool)))) (some (.dat (errD 12 d)))) rfl (it8 h _ _ st)]
  rw [fstep (env1 := EK d 9 2 (some (.dat (.list ([false, false, true, false, false].map .bool)))) (some (.dat (errD 14 d)))) rfl (it9 h _ _ st)]
  rw [fstep (env1 := EK d 10 10 (some (.dat (.list ([true, true, false, false, false].map .bool)))) (some (.dat (errD 2 d)))) rfl (it10 h _ _ st)]
  rw [fstep (env1 := EK d 11 11 (some (.dat (.list ([true, true, false, false, false].map .bool)))) (some (.dat (errD 10 d)))) rfl (it11 h _ _ st)]
  rw [fstep (env1 := EK d 12 8 (some (.dat (.list ([true, true, false, false, false].map .bool)))) (some (.dat (errD 11 d)))) rfl (it12 h _ _ st)]
  rw [fstep (env1 := EK d 13 13 (some (.dat (.list ([true, true, false, false, false].map .bool)))) (some (.dat (errD 8 d)))) rfl (it13 h _ _ st)]
  rfl
theorem right_ok {d : D} (h : Sml d) (st : List Cn) : f__law_right [.dat d] st = .ok (.dat (.bool true)) st := by
  show (m__law_right (envOf 7 [.dat d]) st).fin = _
  rw [right_split, seqM, rP_ok]
  show (seqM (frM rI (.tp [2, 3]) OB) rR [some (.dat d), some (.dat (pairsD d)), none, none, none, none, none] st).fin = _
  rw [seqM, loop14 h]
  show (rR (EK d 13 13 _ _) st).fin = _
  rw [rR_ok]
  rfl
end Pl.Law

set_option Elab.async false
set_option linter.all false
set_option maxRecDepth 100000
set_option maxHeartbeats 1000000
namespace Pl.Law
open PySem PySem.Spec PyProof.Rows L2 PySem.W Pl
def somes : List D := [.none, .int 0, .int (-1), .bool true, .str "", .str "form", .tuple [], .tuple [.int 1, .int 2], .tuple [.tuple [.int 0, .int 1], .int 0], .list [.int 1], .list [.list []], .dict [], .dict [(.str "a", .int 1)], .int (10 ^ 30), .str "a b"]
def S50 (d : D) : Prop := okD d = true ∧ d.showable = true ∧ d.depth ≤ 50 ∧ d.shown.length ≤ 2000
theorem s50_somes : ∀ d ∈ somes, S50 d := by
  have h : somes.all (fun d => okD d && d.showable && decide (d.depth ≤ 50) && decide (d.shown.length ≤ 2000)) = true := by decide +kernel
  intro d hd
  have := List.all_eq_true.mp h d hd
  simp only [Bool.and_eq_true, decide_eq_true_eq] at this
  exact ⟨this.1.1.1, this.1.1.2, this.1.2, this.2⟩
theorem sml_of {d : D} (h : S50 d) : Sml d := ⟨h.1, h.2.1, Nat.le_trans h.2.2.1 (by decide), Nat.le_trans h.2.2.2 (by rw [sizeLine_eq]; decide)⟩
theorem s50_int {v : Int} (h0 : 0 ≤ v) (h1 : v < 5000) : S50 (.int v) := by
  have hv : v.natAbs < 10 ^ 4 := by
    have : v.natAbs < 5000 := by omega
    exact Nat.lt_trans this (by decide)
  refine ⟨rfl, ?_, Nat.zero_le _, ?_⟩
  · show decide (v.natAbs.log2 < 1920) = true
    rw [decide_eq_true_eq]
    by_cases hz : v.natAbs = 0
    · rw [hz]; decide
    · rw [Nat.log2_lt hz]
      exact Nat.lt_trans hv (by decide +kernel)
  · show (Str.ofString (toString v)).length ≤ 2000
    have h := int_text_length_le10 (a := v) (k := 4) (by decide) hv
    rw [PySem.ofString_length]
    omega
theorem sml_pair {a b : D} (ha : S50 a) (hb : S50 b) : Sml (.tuple [a, b]) := by
  obtain ⟨a1, a2, a3, a4⟩ := ha
  obtain ⟨b1, b2, b3, b4⟩ := hb
  refine ⟨by simp [okD, okDs, a1, b1], by simp [PyData.showable, PyData.showableAll, a2, b2], ?_, ?_⟩
  · simp only [PyData.depth, PyData.depthAll]
    omega
  · show (tupleText [a.shown, b.shown]).length ≤ sizeLine
    have e : (tupleText [a.shown, b.shown]).length = 1 + (Str.join ", " [a.shown, b.shown]).length + 1 := by
      unfold tupleText
      rw [strLen_append, strLen_append]
      rfl
    have j := join_length_add [a.shown, b.shown] (by simp)
    have p : piled [a.shown, b.shown] = a.shown.length + 2 + (b.shown.length + 2) := by simp [piled]
    rw [e, sizeLine_eq]
    omega
/-! the law's begin -/
def bigC : EM := binM gGe (varM 2) (binM gPow (cstM (.int 10)) (cstM (.int 18)))
theorem bigC_ok (x0 x1 : Option Val) (n : Int) (st : List Cn) : bigC [x0, x1, some (.dat (.int n))] st = .ok (.dat (.bool (decide ((10 : Int) ^ (18 : Int).toNat ≤ n)))) st := by kernel_rfl
theorem great_loop (x0 x1 x2 : Option Val) (st : List Cn) : ∀ (ns acc : List Int), acc.length + ns.length ≤ 1000 → ∃ G : List Int, lcM (.nm 2) bigC (varM 2) (ns.map PyData.int) (acc.map PyData.int) [x0, x1, x2] st = .ok (.fr (.lst (G.map PyData.int))) st
  | [], acc, _ => ⟨acc, rfl⟩
  | n :: ns, acc, h => by
    simp only [List.length_cons] at h
    have hl : (acc.map PyData.int).length < sizeLine := by rw [List.length_map, sizeLine_eq]; omega
    show ∃ G : List Int, (match bigC [x0, x1, some (.dat (.int n))] st with
      | .ok (.dat (.bool true)) st1 => match varM 2 [x0, x1, some (.dat (.int n))] st1 with
        | .ok v st2 => match asDat v with
          | some z => if (acc.map PyData.int).length < sizeLine then lcM (.nm 2) bigC (varM 2) (ns.map PyData.int) (acc.map PyData.int ++ [z]) [x0, x1, x2] st2 else .stk
          | none => .stk
        | _ => .stk
      | .ok (.dat (.bool false)) st1 => lcM (.nm 2) bigC (varM 2) (ns.map PyData.int) (acc.map PyData.int) [x0, x1, x2] st1
      | _ => .stk) = _
    rw [bigC_ok]
    by_cases hb : (10 : Int) ^ (18 : Int).toNat ≤ n
    · rw [decide_eq_true hb]
      obtain ⟨G, hG⟩ := great_loop x0 x1 x2 st ns (acc ++ [n]) (by simp; omega)
      refine ⟨G, ?_⟩
      show (if (acc.map PyData.int).length < sizeLine then lcM (.nm 2) bigC (varM 2) (ns.map PyData.int) (acc.map PyData.int ++ [.int n]) [x0, x1, x2] st else .stk) = _
      rw [if_pos hl]
      rw [List.map_append] at hG
      exact hG
    · rw [decide_eq_false hb]
      exact great_loop x0 x1 x2 st ns acc (by omega)
theorem canLay_ints : ∀ ns : List Int, PyData.canLayAll0 (ns.map PyData.int) = true
  | [] => rfl
  | n :: ns => by
    show (PyData.canLay0 (.int n) && PyData.canLayAll0 (ns.map PyData.int)) = true
    rw [canLay_ints ns]
    rfl
theorem depth_ints : ∀ ns : List Int, PyData.depthAll (ns.map PyData.int) = 0
  | [] => rfl
  | n :: ns => by
    show max (PyData.depth (.int n)) (PyData.depthAll (ns.map PyData.int)) = 0
    rw [depth_ints ns]
    rfl
theorem shaped_ints (ns : List Int) : SeqAt.shaped (.list (ns.map PyData.int)) = true := by
  show (PyData.canLayAll0 (ns.map PyData.int) && decide (PyData.depthAll (ns.map PyData.int) + 1 ≤ 64)) = true
  rw [canLay_ints, depth_ints]
  rfl
def begE1 : EM := binM gAdd (callM gList (acons (varM 0) anil)) (lstM (acons (callM gLen (acons (varM 0) anil)) anil))
def begE2 : EM := ifM (binM gNeq (varM 1) (lstM anil)) (binM gIx (varM 1) (cstM (.int 0))) (cstM (.int 0))
def compS : SM := setM 1 (compM (seqI true (varM 0)) [2] (.nm 2) bigC (varM 2))
def retB : SM := retM (dctM ["cells", "left", "spot"] (aof [begE1, begE2, cstM (.int 0)]))
theorem begun_split : m__law_begun = seqM compS (fzM 1 retB) := rfl
theorem begun_ok (ns : List Int) (hn : ns.length ≤ 63) : ∃ l, f__law_begun [.scr (ns.map PyData.int)] [] = .ok (.fr (cD (ns ++ [(ns.length : Int)]) l 0)) [] := by
  obtain ⟨G, hG⟩ := great_loop (some (.scr (ns.map PyData.int))) none none [] ns [] (by simp; omega)
  obtain ⟨env, he⟩ : ∃ env : Env, env = [some (.scr (ns.map PyData.int)), some (.dat (.list (G.map PyData.int))), none] := ⟨_, rfl⟩
  have hc : compS (envOf 3 [.scr (ns.map PyData.int)]) [] = .nx [some (.scr (ns.map PyData.int)), some (.fr (.lst (G.map PyData.int))), none] [] := by
    show Ou.bindS (lcM (.nm 2) bigC (varM 2) (ns.map PyData.int) ([] : List D) [some (.scr (ns.map PyData.int)), none, none] []) _ _ = _
    rw [show ([] : List D) = ([] : List Int).map PyData.int from rfl, hG]
    rfl
  have h1 : begE1 env [] = .ok (.fr (.lst ((ns ++ [(ns.length : Int)]).map PyData.int))) [] := by
    subst he
    have hl : (ns.map PyData.int).length + ([PyData.int (((ns.map PyData.int).length : Nat) : Int)]).length ≤ sizeLine := by
      rw [List.length_map, sizeLine_eq]
      show ns.length + 1 ≤ _
      omega
    show Ou.of [] (Option.or (if (ns.map PyData.int).length + ([PyData.int (((ns.map PyData.int).length : Nat) : Int)]).length ≤ sizeLine then some (Val.fr (.lst (ns.map PyData.int ++ [PyData.int (((ns.map PyData.int).length : Nat) : Int)]))) else none) _) = _
    rw [if_pos hl, List.map_append, List.length_map]
    rfl
  have h2 : ∃ l : Int, begE2 env [] = .ok (.dat (.int l)) [] := by
    subst he
    cases G with
    | nil => exact ⟨0, by kernel_rfl⟩
    | cons g G =>
      refine ⟨g, ?_⟩
      have hne : gNeq (.dat (.list ((g :: G).map PyData.int))) (.fr (.lst [])) = some (.dat (.bool true)) := by
        show (if SeqAt.shaped (.list ((g :: G).map PyData.int)) = true ∧ SeqAt.shaped (.list []) = true then some (Val.dat (.bool (!PyData.eqv (.list ((g :: G).map PyData.int)) (.list [])))) else none) = _
        rw [if_pos ⟨shaped_ints _, shaped_ints []⟩]
        rfl
      have hat : atI ((g :: G).map PyData.int) 0 = some (PyData.int g) := by
        unfold atI ixN
        rw [if_pos (by decide), if_pos (by simp)]
        rfl
      show (Ou.bind (Ou.of [] (gNeq (.dat (.list ((g :: G).map PyData.int))) (.fr (.lst [])))) fun v st1 => _) = _
      rw [hne]
      show Ou.of [] ((atI ((g :: G).map PyData.int) 0).map Val.dat) = _
      rw [hat]
      rfl
  obtain ⟨l, h2⟩ := h2
  refine ⟨l, ?_⟩
  show (m__law_begun (envOf 3 [.scr (ns.map PyData.int)]) []).fin = _
  rw [begun_split, seqM, hc]
  show (retB [some (.scr (ns.map PyData.int)), some (.dat (.list (G.map PyData.int))), none] []).fin = _
  rw [← he]
  show (Ou.bindS (OuL.bind (Ou.bindL (begE1 env []) fun v st1 => match v.frz with
    | none => .stk
    | some w => (acons begE2 (acons (cstM (.int 0)) anil) env st1).bindL fun vs st2 => .ok (w :: vs) st2) _) env _).fin = _
  rw [h1]
  show (Ou.bindS (OuL.bind (OuL.bindL (Ou.bindL (begE2 env []) _) _) _) env _).fin = _
  rw [h2]
  rfl

theorem of_ok {cs : List Int} {l s : Int} (hc : cs ≠ []) (h0 : 0 ≤ s) (h1 : s < 1000000) : ∃ d l' s', f__law_of [.obj 0, .dat (.list somes)] [cD cs l s] = .ok (.dat d) [cD cs l' s'] ∧ d ∈ somes ∧ 0 ≤ s' ∧ s' ≤ s + 1 := by
  obtain ⟨v, l', s', e, hv0, hv1, hs0, hs1⟩ := draw15 cs l s hc h0 h1
  have hl : somes.length = 15 := rfl
  have hlt : v.toNat < somes.length := by rw [hl]; omega
  refine ⟨somes[v.toNat], l', s', ?_, List.getElem_mem hlt, hs0, hs1⟩
  have hat : atI somes v = some somes[v.toNat] := by
    unfold atI ixN
    rw [if_pos hv0, if_pos (by rw [hl]; omega)]
    simp [hlt]
  show (Os.fin (Ou.bindS (Ou.bind (f__law_draw [.obj 0, .dat (.int 15)] [cD cs l s]) fun w st2 => Ou.of st2 (gIx (.dat (.list somes)) w)) _ fun v st1 => if nobor v = true then .ret v st1 else .stk)) = _
  rw [e]
  show (Os.fin (Ou.bindS (Ou.of _ ((atI somes v).map Val.dat)) _ fun v st1 => if nobor v = true then .ret v st1 else .stk)) = _
  rw [hat]
  rfl
def someS : SM := (setM 1 (frzM (lstM (acons (cstM .none) (acons (cstM (.int 0)) (acons (unM gNeg (cstM (.int 1))) (acons (cstM (.bool true)) (acons (cstM (.str "")) (acons (cstM (.str "form")) (acons (tupM anil) (acons (tupM (acons (cstM (.int 1)) (acons (cstM (.int 2)) anil))) (acons (tupM (acons (tupM (acons (cstM (.int 0)) (acons (cstM (.int 1)) anil))) (acons (cstM (.int 0)) anil))) (acons (lstM (acons (cstM (.int 1)) anil)) (acons (lstM (acons (lstM anil) anil)) (acons (fun _ st => .ok (.fr (.dk [])) st) (acons (dctM ["a"] (aof [(cstM (.int 1))])) (acons (binM gPow (cstM (.int 10)) (cstM (.int 30))) (acons (cstM (.str "a b")) anil))))))))))))))))))
def begS : SM := (setO 2 (callF 1 f__law_begun (acons (varM 0) anil)))
def loopIm : IM := (rng1I (acons (binM gAdd (cstM (.int 3)) (callM gMin (acons (cstM (.int 9)) (acons (callM gLen (acons (varM 0) anil)) anil)))) anil))
def bodyg (gd go gr : FM) : SM := ifS (orM (notM (truM (callF 1 gr (acons (callF 2 go (acons (varM 2) (acons (varM 1) anil))) anil)))) (notM (truM (callF 1 gr (acons (tupM (acons (callF 2 gd (acons (varM 2) (acons (cstM (.int 99)) anil))) (acons (callF 2 go (acons (varM 2) (acons (varM 1) anil))) anil))) anil))))) (retM (cstM (.bool false))) nilM
def body : SM := bodyg f__law_draw f__law_of f__law_right
def loopL : SM := frM loopIm (.nm 3) body
def endS : SM := (seqM (setM 4 (lstM anil)) (seqM (tryM (raiM 1 (cstM (.str "kinds"))) [([true, true, true, true, true, true, true, true, true, true, true, true, true, false, false], (some 5), (appM 4 (varM 5)))]) (seqM (setM 6 (frzM (mkP 0 (cstM (.str "no rule"))))) (seqM (ifS (binM gNeq (callF 1 f__law_above (acons (varM 6) anil)) (lstM (acons (cstM (.bool true)) (acons (cstM (.bool true)) (acons (cstM (.bool false)) (acons (cstM (.bool false)) (acons (cstM (.bool false)) anil))))))) (retM (cstM (.bool false))) nilM) (retM (andV (binM gEqq (callF 1 f__law_marks (acons (varM 6) anil)) (binM gMul (lstM (acons (cstM (.bool false)) anil)) (cstM (.int 14)))) (binM gEqq (callM gLen (acons (varM 4) anil)) (cstM (.int 1)))))))))
theorem law_split : m_law = seqM someS (seqM begS (seqM loopL endS)) := rfl
abbrev EL (L : List D) (e3 : Option Val) : Env := [some (.scr L), some (.dat (.list somes)), some (.obj 0), e3, none, none, none]
theorem body_gen (gd go gr : FM) {L : List D} {e3 : Option Val} {c0 c1 c2 c3 : List Cn} {d1 d2 : D} {v : Int} (q1 : go [.obj 0, .dat (.list somes)] c0 = .ok (.dat d1) c1) (r1 : gr [.dat d1] c1 = .ok (.dat (.bool true)) c1)
    (q2 : gd [.obj 0, .dat (.int 99)] c1 = .ok (.dat (.int v)) c2) (q3 : go [.obj 0, .dat (.list somes)] c2 = .ok (.dat d2) c3) (r2 : gr [.dat (.tuple [.int v, d2])] c3 = .ok (.dat (.bool true)) c3) : bodyg gd go gr (EL L e3) c0 = .nx (EL L e3) c3 := by
  obtain ⟨env, he⟩ : ∃ env : Env, env = EL L e3 := ⟨_, rfl⟩
  have o1 : (callF 2 go (acons (varM 2) (acons (varM 1) anil))) env c0 = .ok (.dat d1) c1 := by
    subst he
    show go [.obj 0, .dat (.list somes)] c0 = _
    exact q1
  have o2 : (callF 2 go (acons (varM 2) (acons (varM 1) anil))) env c2 = .ok (.dat d2) c3 := by
    subst he
    show go [.obj 0, .dat (.list somes)] c2 = _
    exact q3
  have o3 : (callF 2 gd (acons (varM 2) (acons (cstM (.int 99)) anil))) env c1 = .ok (.dat (.int v)) c2 := by
    subst he
    show gd [.obj 0, .dat (.int 99)] c1 = _
    exact q2
  have t1 : (tupM (acons (callF 2 gd (acons (varM 2) (acons (cstM (.int 99)) anil))) (acons (callF 2 go (acons (varM 2) (acons (varM 1) anil))) anil))) env c1 = .ok (.dat (.tuple [.int v, d2])) c3 := by
    show OuL.bind (Ou.bindL ((callF 2 gd (acons (varM 2) (acons (cstM (.int 99)) anil))) env c1) fun v st1 => match v.frz with
      | none => .stk
      | some w => (acons (callF 2 go (acons (varM 2) (acons (varM 1) anil))) anil env st1).bindL fun vs st2 => .ok (w :: vs) st2) _ = _
    rw [o3]
    show OuL.bind (OuL.bindL (Ou.bindL ((callF 2 go (acons (varM 2) (acons (varM 1) anil))) env c2) _) _) _ = _
    rw [o2]
    rfl
  have a1 : callF 1 gr (acons (callF 2 go (acons (varM 2) (acons (varM 1) anil))) anil) env c0 = .ok (.dat (.bool true)) c1 := by
    show OuL.bind (Ou.bindL ((callF 2 go (acons (varM 2) (acons (varM 1) anil))) env c0) _) _ = _
    rw [o1]
    show gr [.dat d1] c1 = _
    exact r1
  have a2 : callF 1 gr (acons (tupM (acons (callF 2 gd (acons (varM 2) (acons (cstM (.int 99)) anil))) (acons (callF 2 go (acons (varM 2) (acons (varM 1) anil))) anil))) anil) env c1 = .ok (.dat (.bool true)) c3 := by
    show OuL.bind (Ou.bindL ((tupM (acons (callF 2 gd (acons (varM 2) (acons (cstM (.int 99)) anil))) (acons (callF 2 go (acons (varM 2) (acons (varM 1) anil))) anil))) env c1) _) _ = _
    rw [t1]
    show gr [.dat (.tuple [.int v, d2])] c3 = _
    exact r2
  have n1 : notM (truM (callF 1 gr (acons (callF 2 go (acons (varM 2) (acons (varM 1) anil))) anil))) env c0 = .ok (.dat (.bool false)) c1 := by
    show Ou.bind (Ou.bind (callF 1 gr (acons (callF 2 go (acons (varM 2) (acons (varM 1) anil))) anil) env c0) _) _ = _
    rw [a1]
    rfl
  have n2 : notM (truM (callF 1 gr (acons (tupM (acons (callF 2 gd (acons (varM 2) (acons (cstM (.int 99)) anil))) (acons (callF 2 go (acons (varM 2) (acons (varM 1) anil))) anil))) anil))) env c1 = .ok (.dat (.bool false)) c3 := by
    show Ou.bind (Ou.bind (callF 1 gr (acons (tupM (acons (callF 2 gd (acons (varM 2) (acons (cstM (.int 99)) anil))) (acons (callF 2 go (acons (varM 2) (acons (varM 1) anil))) anil))) anil) env c1) _) _ = _
    rw [a2]
    rfl
  rw [← he]
  show Ou.bindS (Ou.bind (notM (truM (callF 1 gr (acons (callF 2 go (acons (varM 2) (acons (varM 1) anil))) anil))) env c0) fun v st1 => match v with
    | .dat (.bool true) => .ok (.dat (.bool true)) st1
    | .dat (.bool false) => notM (truM (callF 1 gr (acons (tupM (acons (callF 2 gd (acons (varM 2) (acons (cstM (.int 99)) anil))) (acons (callF 2 go (acons (varM 2) (acons (varM 1) anil))) anil))) anil))) env st1
    | _ => .stk) env _ = _
  rw [n1]
  show Ou.bindS (notM (truM (callF 1 gr (acons (tupM (acons (callF 2 gd (acons (varM 2) (acons (cstM (.int 99)) anil))) (acons (callF 2 go (acons (varM 2) (acons (varM 1) anil))) anil))) anil))) env c1) env _ = _
  rw [n2]
  rfl
theorem fstep2 {tg : Tg} {mt : SM} {i : D} {is : List D} {env env1 env2 : Env} {st st2 : List Cn} (hb : bindT tg i env = some env1) (h : mt env1 st = .nx env2 st2) : forM tg mt (i :: is) env st = forM tg mt is env2 st2 := by
  show (match bindT tg i env with
    | none => (.stk : Os)
    | some env1 => match mt env1 st with
      | .nx env' st' => forM tg mt is env' st'
      | .cnt env' st' => forM tg mt is env' st'
      | .brk env' st' => .nx env' st'
      | o => o) = _
  rw [hb]
  show (match mt env1 st with
      | .nx env' st' => forM tg mt is env' st'
      | .cnt env' st' => forM tg mt is env' st'
      | .brk env' st' => .nx env' st'
      | o => o) = _
  rw [h]
theorem loop_all {L : List D} {cs : List Int} (hc : cs ≠ []) : ∀ (items : List D) (e3 : Option Val) (l s : Int), 0 ≤ s → s + 3 * items.length < 900000 → ∃ e3' l' s', forM (.nm 3) body items (EL L e3) [cD cs l s] = .nx (EL L e3') [cD cs l' s']
  | [], e3, l, s, _, _ => ⟨e3, l, s, rfl⟩
  | d0 :: items, e3, l, s, h0, h1 => by
    simp only [List.length_cons] at h1
    obtain ⟨d1, l1, s1, q1, m1, x1, y1⟩ := of_ok (cs := cs) (l := l) (s := s) hc h0 (by omega)
    obtain ⟨v, l2, s2, q2, v0, v1, x2, y2⟩ := draw99 cs l1 s1 hc x1 (by omega)
    obtain ⟨d2, l3, s3, q3, m3, x3, y3⟩ := of_ok (cs := cs) (l := l2) (s := s2) hc x2 (by omega)
    have hb : body (EL L (some (.dat d0))) [cD cs l s] = .nx (EL L (some (.dat d0))) [cD cs l3 s3] :=
      body_gen f__law_draw f__law_of f__law_right q1 (right_ok (sml_of (s50_somes d1 m1)) _) q2 q3 (right_ok (sml_pair (s50_int v0 (by omega)) (s50_somes d2 m3)) _)
    obtain ⟨e3', l', s', r⟩ := loop_all hc items (some (.dat d0)) l3 s3 x3 (by omega)
    exact ⟨e3', l', s', (fstep2 (tg := .nm 3) (env1 := EL L (some (.dat d0))) rfl hb).trans r⟩
theorem some_ok (L : List D) (st : List Cn) : someS [some (.scr L), none, none, none, none, none, none] st = .nx [some (.scr L), some (.dat (.list somes)), none, none, none, none, none] st := by kernel_rfl
theorem im_ok (L : List D) (e3 : Option Val) (st : List Cn) : ∃ items : List D, loopIm (EL L e3) st = .ok items st ∧ items.length ≤ 12 := by
  obtain ⟨j, hj⟩ : ∃ j : Int, j = (3 : Int) + (if ((L.length : Nat) : Int) < (9 : Int) then ((L.length : Nat) : Int) else 9) := ⟨_, rfl⟩
  have hb : 0 ≤ j ∧ j ≤ 12 := by
    rw [hj]
    split <;> omega
  refine ⟨intsD 0 j.toNat, ?_, by unfold intsD; rw [List.length_map, List.length_range]; omega⟩
  show (if -(2 ^ 62) ≤ (3 : Int) + (if ((L.length : Nat) : Int) < (9 : Int) then ((L.length : Nat) : Int) else 9) ∧ (3 : Int) + (if ((L.length : Nat) : Int) < (9 : Int) then ((L.length : Nat) : Int) else 9) < 2 ^ 62 then Oi.ok (intsD 0 ((3 : Int) + (if ((L.length : Nat) : Int) < (9 : Int) then ((L.length : Nat) : Int) else 9)).toNat) st else .stk) = _
  rw [← hj, if_pos ⟨by omega, by omega⟩]
theorem end_ok (L : List D) (e3 : Option Val) (st : List Cn) : endS (EL L e3) st = .ret (.dat (.bool true)) st := by kernel_rfl
theorem law_true : ∀ ns : List Int, ns.length ≤ 63 → ∃ st, f_law [.scr (ns.map PyData.int)] [] = .ok (.dat (.bool true)) st := by
  intro ns hn
  obtain ⟨l, hb⟩ := begun_ok ns hn
  have hc : ns ++ [(ns.length : Int)] ≠ [] := by simp
  obtain ⟨items, hi, hil⟩ := im_ok (ns.map PyData.int) none [cD (ns ++ [(ns.length : Int)]) l 0]
  obtain ⟨e3, l', s', hloop⟩ := loop_all (L := ns.map PyData.int) hc items none l 0 (by omega) (by omega)
  refine ⟨[cD (ns ++ [(ns.length : Int)]) l' s'], ?_⟩
  have hbeg : begS [some (.scr (ns.map PyData.int)), some (.dat (.list somes)), none, none, none, none, none] [] = .nx (EL (ns.map PyData.int) none) [cD (ns ++ [(ns.length : Int)]) l 0] := by
    show Ou.bindS (f__law_begun [.scr (ns.map PyData.int)] []) _ _ = _
    rw [hb]
    rfl
  show (m_law [some (.scr (ns.map PyData.int)), none, none, none, none, none, none] []).fin = _
  rw [law_split, seqM, some_ok]
  show (seqM begS (seqM loopL endS) [some (.scr (ns.map PyData.int)), some (.dat (.list somes)), none, none, none, none, none] []).fin = _
  rw [seqM, hbeg]
  show (seqM loopL endS (EL (ns.map PyData.int) none) [cD (ns ++ [(ns.length : Int)]) l 0]).fin = _
  have hl : loopL (EL (ns.map PyData.int) none) [cD (ns ++ [(ns.length : Int)]) l 0] = .nx (EL (ns.map PyData.int) e3) [cD (ns ++ [(ns.length : Int)]) l' s'] := by
    unfold loopL
    rw [frM, hi]
    exact hloop
  rw [seqM, hl]
  show (endS (EL (ns.map PyData.int) e3) _).fin = _
  rw [end_ok]
  rfl
end Pl.Law

namespace Pl.Law
open PySem PySem.Spec PyProof.Rows L2 PySem.W Pl
section
variable {w : World} {K : Frag} {mg : Str → Option Value} {base : Heap} {ec : List (Addr × Str)}

set_option maxHeartbeats 8000000 in
theorem all_mk {w : World} {K : Frag} {h : Heap} {mg : Str → Option Value} {fa : Addr} (X : K.In h) (G : h.Ns mainGlobals mg) (hfa : mg "law" = some (.ref fa))
    {C1 : Addr} {C7 : Addr} {C3 : Addr} {C4 : Addr} {C5 : Addr} {C6 : Addr} {C9 : Addr} {C12 : Addr} {C14 : Addr} {C2 : Addr} {C10 : Addr} {C11 : Addr} {C8 : Addr} {C13 : Addr} {C0 : Addr} {f__law_begun_ : Addr} {oc__law_begun kV__law_begun dc__law_begun pm__law_begun cd__law_begun ct__law_begun : Value} {od__law_begun an__law_begun : Option Addr} {sl__law_begun : Array (Option Value)} {f__law_draw_ : Addr} {oc__law_draw kV__law_draw dc__law_draw pm__law_draw cd__law_draw ct__law_draw : Value} {od__law_draw an__law_draw : Option Addr} {sl__law_draw : Array (Option Value)} {f__law_of_ : Addr} {oc__law_of kV__law_of dc__law_of pm__law_of cd__law_of ct__law_of : Value} {od__law_of an__law_of : Option Addr} {sl__law_of : Array (Option Value)} {f__law_pairs_ : Addr} {oc__law_pairs kV__law_pairs dc__law_pairs pm__law_pairs cd__law_pairs ct__law_pairs : Value} {od__law_pairs an__law_pairs : Option Addr} {sl__law_pairs : Array (Option Value)} {f__law_marks_ : Addr} {oc__law_marks kV__law_marks dc__law_marks pm__law_marks cd__law_marks ct__law_marks : Value} {od__law_marks an__law_marks : Option Addr} {sl__law_marks : Array (Option Value)} {f__law_above_ : Addr} {oc__law_above kV__law_above dc__law_above pm__law_above cd__law_above ct__law_above : Value} {od__law_above an__law_above : Option Addr} {sl__law_above : Array (Option Value)} {f__law_field_ : Addr} {oc__law_field kV__law_field dc__law_field pm__law_field cd__law_field ct__law_field : Value} {od__law_field an__law_field : Option Addr} {sl__law_field : Array (Option Value)} {f__law_right_ : Addr} {oc__law_right kV__law_right dc__law_right pm__law_right cd__law_right ct__law_right : Value} {od__law_right an__law_right : Option Addr} {sl__law_right : Array (Option Value)} {f_law_ : Addr} {oc_law kV_law dc_law pm_law cd_law ct_law : Value} {od_law an_law : Option Addr} {sl_law : Array (Option Value)} {I1 cc1 cda1 : Addr} {qual1 m1 : Str} {oc1 kV1 doc1 pm1 ct1 ccl1 cl1 : Value} {od1 an1 cdd1 cld1 : Option Addr} {osl1 ccs1 csl1 : Array (Option Value)} {vs1 : Array Value} {file1 : Str} {tf1 : Tok} {p1_1 p2_1 q0_1 q1_1 q2_1 q3_1 q4_1 q5_1 q6_1 q7_1 q8_1 q9_1 : Pos} {I2 cc2 cda2 : Addr} {qual2 m2 : Str} {oc2 kV2 doc2 pm2 ct2 ccl2 cl2 : Value} {od2 an2 cdd2 cld2 : Option Addr} {osl2 ccs2 csl2 : Array (Option Value)} {vs2 : Array Value} {file2 : Str} {tf2 : Tok} {p1_2 p2_2 q0_2 q1_2 q2_2 q3_2 q4_2 q5_2 q6_2 q7_2 q8_2 q9_2 : Pos} {I3 cc3 cda3 : Addr} {qual3 m3 : Str} {oc3 kV3 doc3 pm3 ct3 ccl3 cl3 : Value} {od3 an3 cdd3 cld3 : Option Addr} {osl3 ccs3 csl3 : Array (Option Value)} {vs3 : Array Value} {file3 : Str} {tf3 : Tok} {p1_3 p2_3 q0_3 q1_3 q2_3 q3_3 q4_3 q5_3 q6_3 q7_3 q8_3 q9_3 : Pos} {I4 cc4 cda4 : Addr} {qual4 m4 : Str} {oc4 kV4 doc4 pm4 ct4 ccl4 cl4 : Value} {od4 an4 cdd4 cld4 : Option Addr} {osl4 ccs4 csl4 : Array (Option Value)} {vs4 : Array Value} {file4 : Str} {tf4 : Tok} {p1_4 p2_4 q0_4 q1_4 q2_4 q3_4 q4_4 q5_4 q6_4 q7_4 q8_4 q9_4 : Pos} {I5 cc5 cda5 : Addr} {qual5 m5 : Str} {oc5 kV5 doc5 pm5 ct5 ccl5 cl5 : Value} {od5 an5 cdd5 cld5 : Option Addr} {osl5 ccs5 csl5 : Array (Option Value)} {vs5 : Array Value} {file5 : Str} {tf5 : Tok} {p1_5 p2_5 q0_5 q1_5 q2_5 q3_5 q4_5 q5_5 q6_5 q7_5 q8_5 q9_5 : Pos} {I6 cc6 cda6 : Addr} {qual6 m6 : Str} {oc6 kV6 doc6 pm6 ct6 ccl6 cl6 : Value} {od6 an6 cdd6 cld6 : Option Addr} {osl6 ccs6 csl6 : Array (Option Value)} {vs6 : Array Value} {file6 : Str} {tf6 : Tok} {p1_6 p2_6 q0_6 q1_6 q2_6 q3_6 q4_6 q5_6 q6_6 q7_6 q8_6 q9_6 : Pos} {I7 cc7 cda7 : Addr} {qual7 m7 : Str} {oc7 kV7 doc7 pm7 ct7 ccl7 cl7 : Value} {od7 an7 cdd7 cld7 : Option Addr} {osl7 ccs7 csl7 : Array (Option Value)} {vs7 : Array Value} {file7 : Str} {tf7 : Tok} {p1_7 p2_7 q0_7 q1_7 q2_7 q3_7 q4_7 q5_7 q6_7 q7_7 q8_7 q9_7 : Pos} {I8 cc8 cda8 : Addr} {qual8 m8 : Str} {oc8 kV8 doc8 pm8 ct8 ccl8 cl8 : Value} {od8 an8 cdd8 cld8 : Option Addr} {osl8 ccs8 csl8 : Array (Option Value)} {vs8 : Array Value} {file8 : Str} {tf8 : Tok} {p1_8 p2_8 q0_8 q1_8 q2_8 q3_8 q4_8 q5_8 q6_8 q7_8 q8_8 q9_8 : Pos} {I9 cc9 cda9 : Addr} {qual9 m9 : Str} {oc9 kV9 doc9 pm9 ct9 ccl9 cl9 : Value} {od9 an9 cdd9 cld9 : Option Addr} {osl9 ccs9 csl9 : Array (Option Value)} {vs9 : Array Value} {file9 : Str} {tf9 : Tok} {p1_9 p2_9 q0_9 q1_9 q2_9 q3_9 q4_9 q5_9 q6_9 q7_9 q8_9 q9_9 : Pos} {I10 cc10 cda10 : Addr} {qual10 m10 : Str} {oc10 kV10 doc10 pm10 ct10 ccl10 cl10 : Value} {od10 an10 cdd10 cld10 : Option Addr} {osl10 ccs10 csl10 : Array (Option Value)} {vs10 : Array Value} {file10 : Str} {tf10 : Tok} {p1_10 p2_10 q0_10 q1_10 q2_10 q3_10 q4_10 q5_10 q6_10 q7_10 q8_10 q9_10 : Pos} {I11 cc11 cda11 : Addr} {qual11 m11 : Str} {oc11 kV11 doc11 pm11 ct11 ccl11 cl11 : Value} {od11 an11 cdd11 cld11 : Option Addr} {osl11 ccs11 csl11 : Array (Option Value)} {vs11 : Array Value} {file11 : Str} {tf11 : Tok} {p1_11 p2_11 q0_11 q1_11 q2_11 q3_11 q4_11 q5_11 q6_11 q7_11 q8_11 q9_11 : Pos} {I12 cc12 cda12 : Addr} {qual12 m12 : Str} {oc12 kV12 doc12 pm12 ct12 ccl12 cl12 : Value} {od12 an12 cdd12 cld12 : Option Addr} {osl12 ccs12 csl12 : Array (Option Value)} {vs12 : Array Value} {file12 : Str} {tf12 : Tok} {p1_12 p2_12 q0_12 q1_12 q2_12 q3_12 q4_12 q5_12 q6_12 q7_12 q8_12 q9_12 : Pos} {I13 cc13 cda13 : Addr} {qual13 m13 : Str} {oc13 kV13 doc13 pm13 ct13 ccl13 cl13 : Value} {od13 an13 cdd13 cld13 : Option Addr} {osl13 ccs13 csl13 : Array (Option Value)} {vs13 : Array Value} {file13 : Str} {tf13 : Tok} {p1_13 p2_13 q0_13 q1_13 q2_13 q3_13 q4_13 q5_13 q6_13 q7_13 q8_13 q9_13 : Pos} {I14 cc14 cda14 : Addr} {qual14 m14 : Str} {oc14 kV14 doc14 pm14 ct14 ccl14 cl14 : Value} {od14 an14 cdd14 cld14 : Option Addr} {osl14 ccs14 csl14 : Array (Option Value)} {vs14 : Array Value} {file14 : Str} {tf14 : Tok} {p1_14 p2_14 q0_14 q1_14 q2_14 q3_14 q4_14 q5_14 q6_14 q7_14 q8_14 q9_14 : Pos}
    (a_BadRule : nsIn K mainGlobals "BadRule" = some (some (.ref C1))) (a_BadPaper : nsIn K mainGlobals "BadPaper" = some (some (.ref C7))) (a_BadKind : nsIn K mainGlobals "BadKind" = some (some (.ref C3))) (a_BadNumber : nsIn K mainGlobals "BadNumber" = some (some (.ref C4))) (a_BadStanding : nsIn K mainGlobals "BadStanding" = some (some (.ref C5))) (a_BadFraction : nsIn K mainGlobals "BadFraction" = some (some (.ref C6))) (a_BadDeed : nsIn K mainGlobals "BadDeed" = some (some (.ref C9))) (a_BadWishes : nsIn K mainGlobals "BadWishes" = some (some (.ref C12))) (a_Nothing : nsIn K mainGlobals "Nothing" = some (some (.ref C14))) (a_BadJourney : nsIn K mainGlobals "BadJourney" = some (some (.ref C2))) (a_BadMenu : nsIn K mainGlobals "BadMenu" = some (some (.ref C10))) (a_BadPaid : nsIn K mainGlobals "BadPaid" = some (some (.ref C11))) (a_BadText : nsIn K mainGlobals "BadText" = some (some (.ref C8))) (a_TooGreat : nsIn K mainGlobals "TooGreat" = some (some (.ref C13))) (a_ShareError : nsIn K mainGlobals "ShareError" = some (some (.ref C0))) (a__law_begun : nsIn K mainGlobals "_law_begun" = some (some (.ref f__law_begun_))) (l__law_begun : K.lookup f__law_begun_ = some ⟨oc__law_begun, od__law_begun, .func (fnOf "_law_begun" "_law_begun" (defArgs s__law_begun) (defBody s__law_begun) (defScope s__law_begun) .none kV__law_begun dc__law_begun pm__law_begun an__law_begun cd__law_begun ct__law_begun), sl__law_begun⟩) (c__law_begun : codeIn K cd__law_begun "_law_begun" = true) (k__law_begun : keepIn K (.ref f__law_begun_) = true) (a__law_draw : nsIn K mainGlobals "_law_draw" = some (some (.ref f__law_draw_))) (l__law_draw : K.lookup f__law_draw_ = some ⟨oc__law_draw, od__law_draw, .func (fnOf "_law_draw" "_law_draw" (defArgs s__law_draw) (defBody s__law_draw) (defScope s__law_draw) .none kV__law_draw dc__law_draw pm__law_draw an__law_draw cd__law_draw ct__law_draw), sl__law_draw⟩) (c__law_draw : codeIn K cd__law_draw "_law_draw" = true) (k__law_draw : keepIn K (.ref f__law_draw_) = true) (a__law_of : nsIn K mainGlobals "_law_of" = some (some (.ref f__law_of_))) (l__law_of : K.lookup f__law_of_ = some ⟨oc__law_of, od__law_of, .func (fnOf "_law_of" "_law_of" (defArgs s__law_of) (defBody s__law_of) (defScope s__law_of) .none kV__law_of dc__law_of pm__law_of an__law_of cd__law_of ct__law_of), sl__law_of⟩) (c__law_of : codeIn K cd__law_of "_law_of" = true) (k__law_of : keepIn K (.ref f__law_of_) = true) (a__law_pairs : nsIn K mainGlobals "_law_pairs" = some (some (.ref f__law_pairs_))) (l__law_pairs : K.lookup f__law_pairs_ = some ⟨oc__law_pairs, od__law_pairs, .func (fnOf "_law_pairs" "_law_pairs" (defArgs s__law_pairs) (defBody s__law_pairs) (defScope s__law_pairs) .none kV__law_pairs dc__law_pairs pm__law_pairs an__law_pairs cd__law_pairs ct__law_pairs), sl__law_pairs⟩) (c__law_pairs : codeIn K cd__law_pairs "_law_pairs" = true) (k__law_pairs : keepIn K (.ref f__law_pairs_) = true) (a__law_marks : nsIn K mainGlobals "_law_marks" = some (some (.ref f__law_marks_))) (l__law_marks : K.lookup f__law_marks_ = some ⟨oc__law_marks, od__law_marks, .func (fnOf "_law_marks" "_law_marks" (defArgs s__law_marks) (defBody s__law_marks) (defScope s__law_marks) .none kV__law_marks dc__law_marks pm__law_marks an__law_marks cd__law_marks ct__law_marks), sl__law_marks⟩) (c__law_marks : codeIn K cd__law_marks "_law_marks" = true) (k__law_marks : keepIn K (.ref f__law_marks_) = true) (a__law_above : nsIn K mainGlobals "_law_above" = some (some (.ref f__law_above_))) (l__law_above : K.lookup f__law_above_ = some ⟨oc__law_above, od__law_above, .func (fnOf "_law_above" "_law_above" (defArgs s__law_above) (defBody s__law_above) (defScope s__law_above) .none kV__law_above dc__law_above pm__law_above an__law_above cd__law_above ct__law_above), sl__law_above⟩) (c__law_above : codeIn K cd__law_above "_law_above" = true) (k__law_above : keepIn K (.ref f__law_above_) = true) (a__law_field : nsIn K mainGlobals "_law_field" = some (some (.ref f__law_field_))) (l__law_field : K.lookup f__law_field_ = some ⟨oc__law_field, od__law_field, .func (fnOf "_law_field" "_law_field" (defArgs s__law_field) (defBody s__law_field) (defScope s__law_field) .none kV__law_field dc__law_field pm__law_field an__law_field cd__law_field ct__law_field), sl__law_field⟩) (c__law_field : codeIn K cd__law_field "_law_field" = true) (k__law_field : keepIn K (.ref f__law_field_) = true) (a__law_right : nsIn K mainGlobals "_law_right" = some (some (.ref f__law_right_))) (l__law_right : K.lookup f__law_right_ = some ⟨oc__law_right, od__law_right, .func (fnOf "_law_right" "_law_right" (defArgs s__law_right) (defBody s__law_right) (defScope s__law_right) .none kV__law_right dc__law_right pm__law_right an__law_right cd__law_right ct__law_right), sl__law_right⟩) (c__law_right : codeIn K cd__law_right "_law_right" = true) (k__law_right : keepIn K (.ref f__law_right_) = true) (a_law : nsIn K mainGlobals "law" = some (some (.ref f_law_))) (l_law : K.lookup f_law_ = some ⟨oc_law, od_law, .func (fnOf "law" "law" (defArgs s_law) (defBody s_law) (defScope s_law) .none kV_law dc_law pm_law an_law cd_law ct_law), sl_law⟩) (c_law : codeIn K cd_law "law" = true) (k_law : keepIn K (.ref f_law_) = true) (b_enumerate : nsIn K mainGlobals "enumerate" = some none) (b_int : nsIn K mainGlobals "int" = some none) (b_isinstance : nsIn K mainGlobals "isinstance" = some none) (b_len : nsIn K mainGlobals "len" = some none) (b_list : nsIn K mainGlobals "list" = some none) (b_min : nsIn K mainGlobals "min" = some none) (b_range : nsIn K mainGlobals "range" = some none) (b_repr : nsIn K mainGlobals "repr" = some none) (sup : nsIn K mainGlobals "super" = some none) (tpa : nsIn K cStatics "thirdparty.any" = some none) (cn : specialIn K (.builtin "object.__class__") "__get__" = some (some (.builtin "getset_descriptor.__get__"))) (ctk : takesIn K (.builtin "object.__class__") = some true) (xi_ShareError : excIn K C0 [.type "ValueError", .type "Exception", .type "BaseException", .type "object"] "ValueError.__new__" = true) (cl_ShareError : isClsIn K C0 = true) (no_ShareError : findIn K (.ref C0) "" = some none) (hd_ShareError : hasDictIn K C0 = true) (kC_ShareError : keepIn K (.ref C0) = true) (ex_ShareError : subIn K (.ref C0) (.type "BaseException") = some true) (ty_ShareError : typeIn K (.ref C0) = some (.type "type")) (ga_ShareError : findIn K (.ref C0) "__getattribute__" = some (some (.builtin "BaseException.__getattribute__"))) (gg_ShareError : findIn K (.ref C0) "__getattr__" = some none) (ca_ShareError : findIn K (.ref C0) "__class__" = some (some (.builtin "object.__class__"))) (cm_ShareError : mroIn K C0 (.type "object") = some true) (i_BadRule : findIn K (.ref C1) "__init__" = some (some (.ref I1))) (L_BadRule : K.lookup I1 = some ⟨oc1, od1, .func (initF qual1 "part" m1 .none kV1 doc1 pm1 ct1 an1 cc1 cda1 p1_1 p2_1 q0_1 q1_1 q2_1 q3_1 q4_1 q5_1 q6_1 q7_1 q8_1 q9_1), osl1⟩) (qi_BadRule : excInitIn K C1 [.type "ValueError", .type "Exception", .type "BaseException", .type "object"] "ValueError.__new__" = true) (qo_BadRule : excOver K C1 [.type "ValueError", .type "Exception", .type "BaseException", .type "object"] = true) (sB_BadRule : subIn K (.ref C1) (.type "ValueError") = some true) (su_BadRule : ks_superIn K C1 C1 "__init__" = some (some (.builtin "ValueError.__init__"))) (mr_BadRule : mroIn K C1 (.ref C1) = some true) (cl_BadRule : isClsIn K C1 = true) (cd_BadRule : codeIn K (.ref cda1) qual1 = true) (lc_BadRule : K.lookup cda1 = some ⟨ccl1, cdd1, .fields vs1, ccs1⟩) (hv_BadRule : vs1[2]? = some (.str file1 tf1)) (hf_BadRule : ((PR.main.file : Str) == file1) = true) (lcc_BadRule : K.lookup cc1 = some ⟨cl1, cld1, .cell (some (.ref C1)), csl1⟩) (hq_BadRule : (q2_1.endLine == q4_1.line) = true) (tC_BadRule : typeIn K (.ref I1) = some (.type "function")) (sa_BadRule : findIn K (.ref C1) "__setattr__" = some (some (.builtin "object.__setattr__"))) (no_BadRule : findIn K (.ref C1) "part" = some none) (hd_BadRule : hasDictIn K C1 = true) (kC_BadRule : keepIn K (.ref C1) = true) (ex_BadRule : subIn K (.ref C1) (.type "BaseException") = some true) (ty_BadRule : typeIn K (.ref C1) = some (.type "type")) (ga_BadRule : findIn K (.ref C1) "__getattribute__" = some (some (.builtin "BaseException.__getattribute__"))) (gg_BadRule : findIn K (.ref C1) "__getattr__" = some none) (ca_BadRule : findIn K (.ref C1) "__class__" = some (some (.builtin "object.__class__"))) (cm_BadRule : mroIn K C1 (.type "object") = some true) (i_BadJourney : findIn K (.ref C2) "__init__" = some (some (.ref I2))) (L_BadJourney : K.lookup I2 = some ⟨oc2, od2, .func (initF qual2 "number" m2 .none kV2 doc2 pm2 ct2 an2 cc2 cda2 p1_2 p2_2 q0_2 q1_2 q2_2 q3_2 q4_2 q5_2 q6_2 q7_2 q8_2 q9_2), osl2⟩) (qi_BadJourney : excInitIn K C2 [.type "ValueError", .type "Exception", .type "BaseException", .type "object"] "ValueError.__new__" = true) (qo_BadJourney : excOver K C2 [.type "ValueError", .type "Exception", .type "BaseException", .type "object"] = true) (sB_BadJourney : subIn K (.ref C2) (.type "ValueError") = some true) (su_BadJourney : ks_superIn K C2 C2 "__init__" = some (some (.builtin "ValueError.__init__"))) (mr_BadJourney : mroIn K C2 (.ref C2) = some true) (cl_BadJourney : isClsIn K C2 = true) (cd_BadJourney : codeIn K (.ref cda2) qual2 = true) (lc_BadJourney : K.lookup cda2 = some ⟨ccl2, cdd2, .fields vs2, ccs2⟩) (hv_BadJourney : vs2[2]? = some (.str file2 tf2)) (hf_BadJourney : ((PR.main.file : Str) == file2) = true) (lcc_BadJourney : K.lookup cc2 = some ⟨cl2, cld2, .cell (some (.ref C2)), csl2⟩) (hq_BadJourney : (q2_2.endLine == q4_2.line) = true) (tC_BadJourney : typeIn K (.ref I2) = some (.type "function")) (sa_BadJourney : findIn K (.ref C2) "__setattr__" = some (some (.builtin "object.__setattr__"))) (no_BadJourney : findIn K (.ref C2) "number" = some none) (hd_BadJourney : hasDictIn K C2 = true) (kC_BadJourney : keepIn K (.ref C2) = true) (ex_BadJourney : subIn K (.ref C2) (.type "BaseException") = some true) (ty_BadJourney : typeIn K (.ref C2) = some (.type "type")) (ga_BadJourney : findIn K (.ref C2) "__getattribute__" = some (some (.builtin "BaseException.__getattribute__"))) (gg_BadJourney : findIn K (.ref C2) "__getattr__" = some none) (ca_BadJourney : findIn K (.ref C2) "__class__" = some (some (.builtin "object.__class__"))) (cm_BadJourney : mroIn K C2 (.type "object") = some true) (i_BadKind : findIn K (.ref C3) "__init__" = some (some (.ref I3))) (L_BadKind : K.lookup I3 = some ⟨oc3, od3, .func (initF qual3 "value" m3 .none kV3 doc3 pm3 ct3 an3 cc3 cda3 p1_3 p2_3 q0_3 q1_3 q2_3 q3_3 q4_3 q5_3 q6_3 q7_3 q8_3 q9_3), osl3⟩) (qi_BadKind : excInitIn K C3 [.type "ValueError", .type "Exception", .type "BaseException", .type "object"] "ValueError.__new__" = true) (qo_BadKind : excOver K C3 [.type "ValueError", .type "Exception", .type "BaseException", .type "object"] = true) (sB_BadKind : subIn K (.ref C3) (.type "ValueError") = some true) (su_BadKind : ks_superIn K C3 C3 "__init__" = some (some (.builtin "ValueError.__init__"))) (mr_BadKind : mroIn K C3 (.ref C3) = some true) (cl_BadKind : isClsIn K C3 = true) (cd_BadKind : codeIn K (.ref cda3) qual3 = true) (lc_BadKind : K.lookup cda3 = some ⟨ccl3, cdd3, .fields vs3, ccs3⟩) (hv_BadKind : vs3[2]? = some (.str file3 tf3)) (hf_BadKind : ((PR.main.file : Str) == file3) = true) (lcc_BadKind : K.lookup cc3 = some ⟨cl3, cld3, .cell (some (.ref C3)), csl3⟩) (hq_BadKind : (q2_3.endLine == q4_3.line) = true) (tC_BadKind : typeIn K (.ref I3) = some (.type "function")) (sa_BadKind : findIn K (.ref C3) "__setattr__" = some (some (.builtin "object.__setattr__"))) (no_BadKind : findIn K (.ref C3) "value" = some none) (hd_BadKind : hasDictIn K C3 = true) (kC_BadKind : keepIn K (.ref C3) = true) (ex_BadKind : subIn K (.ref C3) (.type "BaseException") = some true) (ty_BadKind : typeIn K (.ref C3) = some (.type "type")) (ga_BadKind : findIn K (.ref C3) "__getattribute__" = some (some (.builtin "BaseException.__getattribute__"))) (gg_BadKind : findIn K (.ref C3) "__getattr__" = some none) (ca_BadKind : findIn K (.ref C3) "__class__" = some (some (.builtin "object.__class__"))) (cm_BadKind : mroIn K C3 (.type "object") = some true) (i_BadNumber : findIn K (.ref C4) "__init__" = some (some (.ref I4))) (L_BadNumber : K.lookup I4 = some ⟨oc4, od4, .func (initF qual4 "value" m4 .none kV4 doc4 pm4 ct4 an4 cc4 cda4 p1_4 p2_4 q0_4 q1_4 q2_4 q3_4 q4_4 q5_4 q6_4 q7_4 q8_4 q9_4), osl4⟩) (qi_BadNumber : excInitIn K C4 [.type "ValueError", .type "Exception", .type "BaseException", .type "object"] "ValueError.__new__" = true) (qo_BadNumber : excOver K C4 [.type "ValueError", .type "Exception", .type "BaseException", .type "object"] = true) (sB_BadNumber : subIn K (.ref C4) (.type "ValueError") = some true) (su_BadNumber : ks_superIn K C4 C4 "__init__" = some (some (.builtin "ValueError.__init__"))) (mr_BadNumber : mroIn K C4 (.ref C4) = some true) (cl_BadNumber : isClsIn K C4 = true) (cd_BadNumber : codeIn K (.ref cda4) qual4 = true) (lc_BadNumber : K.lookup cda4 = some ⟨ccl4, cdd4, .fields vs4, ccs4⟩) (hv_BadNumber : vs4[2]? = some (.str file4 tf4)) (hf_BadNumber : ((PR.main.file : Str) == file4) = true) (lcc_BadNumber : K.lookup cc4 = some ⟨cl4, cld4, .cell (some (.ref C4)), csl4⟩) (hq_BadNumber : (q2_4.endLine == q4_4.line) = true) (tC_BadNumber : typeIn K (.ref I4) = some (.type "function")) (sa_BadNumber : findIn K (.ref C4) "__setattr__" = some (some (.builtin "object.__setattr__"))) (no_BadNumber : findIn K (.ref C4) "value" = some none) (hd_BadNumber : hasDictIn K C4 = true) (kC_BadNumber : keepIn K (.ref C4) = true) (ex_BadNumber : subIn K (.ref C4) (.type "BaseException") = some true) (ty_BadNumber : typeIn K (.ref C4) = some (.type "type")) (ga_BadNumber : findIn K (.ref C4) "__getattribute__" = some (some (.builtin "BaseException.__getattribute__"))) (gg_BadNumber : findIn K (.ref C4) "__getattr__" = some none) (ca_BadNumber : findIn K (.ref C4) "__class__" = some (some (.builtin "object.__class__"))) (cm_BadNumber : mroIn K C4 (.type "object") = some true) (i_BadStanding : findIn K (.ref C5) "__init__" = some (some (.ref I5))) (L_BadStanding : K.lookup I5 = some ⟨oc5, od5, .func (initF qual5 "value" m5 .none kV5 doc5 pm5 ct5 an5 cc5 cda5 p1_5 p2_5 q0_5 q1_5 q2_5 q3_5 q4_5 q5_5 q6_5 q7_5 q8_5 q9_5), osl5⟩) (qi_BadStanding : excInitIn K C5 [.type "ValueError", .type "Exception", .type "BaseException", .type "object"] "ValueError.__new__" = true) (qo_BadStanding : excOver K C5 [.type "ValueError", .type "Exception", .type "BaseException", .type "object"] = true) (sB_BadStanding : subIn K (.ref C5) (.type "ValueError") = some true) (su_BadStanding : ks_superIn K C5 C5 "__init__" = some (some (.builtin "ValueError.__init__"))) (mr_BadStanding : mroIn K C5 (.ref C5) = some true) (cl_BadStanding : isClsIn K C5 = true) (cd_BadStanding : codeIn K (.ref cda5) qual5 = true) (lc_BadStanding : K.lookup cda5 = some ⟨ccl5, cdd5, .fields vs5, ccs5⟩) (hv_BadStanding : vs5[2]? = some (.str file5 tf5)) (hf_BadStanding : ((PR.main.file : Str) == file5) = true) (lcc_BadStanding : K.lookup cc5 = some ⟨cl5, cld5, .cell (some (.ref C5)), csl5⟩) (hq_BadStanding : (q2_5.endLine == q4_5.line) = true) (tC_BadStanding : typeIn K (.ref I5) = some (.type "function")) (sa_BadStanding : findIn K (.ref C5) "__setattr__" = some (some (.builtin "object.__setattr__"))) (no_BadStanding : findIn K (.ref C5) "value" = some none) (hd_BadStanding : hasDictIn K C5 = true) (kC_BadStanding : keepIn K (.ref C5) = true) (ex_BadStanding : subIn K (.ref C5) (.type "BaseException") = some true) (ty_BadStanding : typeIn K (.ref C5) = some (.type "type")) (ga_BadStanding : findIn K (.ref C5) "__getattribute__" = some (some (.builtin "BaseException.__getattribute__"))) (gg_BadStanding : findIn K (.ref C5) "__getattr__" = some none) (ca_BadStanding : findIn K (.ref C5) "__class__" = some (some (.builtin "object.__class__"))) (cm_BadStanding : mroIn K C5 (.type "object") = some true) (i_BadFraction : findIn K (.ref C6) "__init__" = some (some (.ref I6))) (L_BadFraction : K.lookup I6 = some ⟨oc6, od6, .func (initF qual6 "value" m6 .none kV6 doc6 pm6 ct6 an6 cc6 cda6 p1_6 p2_6 q0_6 q1_6 q2_6 q3_6 q4_6 q5_6 q6_6 q7_6 q8_6 q9_6), osl6⟩) (qi_BadFraction : excInitIn K C6 [.type "ValueError", .type "Exception", .type "BaseException", .type "object"] "ValueError.__new__" = true) (qo_BadFraction : excOver K C6 [.type "ValueError", .type "Exception", .type "BaseException", .type "object"] = true) (sB_BadFraction : subIn K (.ref C6) (.type "ValueError") = some true) (su_BadFraction : ks_superIn K C6 C6 "__init__" = some (some (.builtin "ValueError.__init__"))) (mr_BadFraction : mroIn K C6 (.ref C6) = some true) (cl_BadFraction : isClsIn K C6 = true) (cd_BadFraction : codeIn K (.ref cda6) qual6 = true) (lc_BadFraction : K.lookup cda6 = some ⟨ccl6, cdd6, .fields vs6, ccs6⟩) (hv_BadFraction : vs6[2]? = some (.str file6 tf6)) (hf_BadFraction : ((PR.main.file : Str) == file6) = true) (lcc_BadFraction : K.lookup cc6 = some ⟨cl6, cld6, .cell (some (.ref C6)), csl6⟩) (hq_BadFraction : (q2_6.endLine == q4_6.line) = true) (tC_BadFraction : typeIn K (.ref I6) = some (.type "function")) (sa_BadFraction : findIn K (.ref C6) "__setattr__" = some (some (.builtin "object.__setattr__"))) (no_BadFraction : findIn K (.ref C6) "value" = some none) (hd_BadFraction : hasDictIn K C6 = true) (kC_BadFraction : keepIn K (.ref C6) = true) (ex_BadFraction : subIn K (.ref C6) (.type "BaseException") = some true) (ty_BadFraction : typeIn K (.ref C6) = some (.type "type")) (ga_BadFraction : findIn K (.ref C6) "__getattribute__" = some (some (.builtin "BaseException.__getattribute__"))) (gg_BadFraction : findIn K (.ref C6) "__getattr__" = some none) (ca_BadFraction : findIn K (.ref C6) "__class__" = some (some (.builtin "object.__class__"))) (cm_BadFraction : mroIn K C6 (.type "object") = some true) (i_BadPaper : findIn K (.ref C7) "__init__" = some (some (.ref I7))) (L_BadPaper : K.lookup I7 = some ⟨oc7, od7, .func (initF qual7 "part" m7 .none kV7 doc7 pm7 ct7 an7 cc7 cda7 p1_7 p2_7 q0_7 q1_7 q2_7 q3_7 q4_7 q5_7 q6_7 q7_7 q8_7 q9_7), osl7⟩) (qi_BadPaper : excInitIn K C7 [.type "ValueError", .type "Exception", .type "BaseException", .type "object"] "ValueError.__new__" = true) (qo_BadPaper : excOver K C7 [.type "ValueError", .type "Exception", .type "BaseException", .type "object"] = true) (sB_BadPaper : subIn K (.ref C7) (.type "ValueError") = some true) (su_BadPaper : ks_superIn K C7 C7 "__init__" = some (some (.builtin "ValueError.__init__"))) (mr_BadPaper : mroIn K C7 (.ref C7) = some true) (cl_BadPaper : isClsIn K C7 = true) (cd_BadPaper : codeIn K (.ref cda7) qual7 = true) (lc_BadPaper : K.lookup cda7 = some ⟨ccl7, cdd7, .fields vs7, ccs7⟩) (hv_BadPaper : vs7[2]? = some (.str file7 tf7)) (hf_BadPaper : ((PR.main.file : Str) == file7) = true) (lcc_BadPaper : K.lookup cc7 = some ⟨cl7, cld7, .cell (some (.ref C7)), csl7⟩) (hq_BadPaper : (q2_7.endLine == q4_7.line) = true) (tC_BadPaper : typeIn K (.ref I7) = some (.type "function")) (sa_BadPaper : findIn K (.ref C7) "__setattr__" = some (some (.builtin "object.__setattr__"))) (no_BadPaper : findIn K (.ref C7) "part" = some none) (hd_BadPaper : hasDictIn K C7 = true) (kC_BadPaper : keepIn K (.ref C7) = true) (ex_BadPaper : subIn K (.ref C7) (.type "BaseException") = some true) (ty_BadPaper : typeIn K (.ref C7) = some (.type "type")) (ga_BadPaper : findIn K (.ref C7) "__getattribute__" = some (some (.builtin "BaseException.__getattribute__"))) (gg_BadPaper : findIn K (.ref C7) "__getattr__" = some none) (ca_BadPaper : findIn K (.ref C7) "__class__" = some (some (.builtin "object.__class__"))) (cm_BadPaper : mroIn K C7 (.type "object") = some true) (i_BadText : findIn K (.ref C8) "__init__" = some (some (.ref I8))) (L_BadText : K.lookup I8 = some ⟨oc8, od8, .func (initF qual8 "line" m8 .none kV8 doc8 pm8 ct8 an8 cc8 cda8 p1_8 p2_8 q0_8 q1_8 q2_8 q3_8 q4_8 q5_8 q6_8 q7_8 q8_8 q9_8), osl8⟩) (qi_BadText : excInitIn K C8 [.type "ValueError", .type "Exception", .type "BaseException", .type "object"] "ValueError.__new__" = true) (qo_BadText : excOver K C8 [.type "ValueError", .type "Exception", .type "BaseException", .type "object"] = true) (sB_BadText : subIn K (.ref C8) (.type "ValueError") = some true) (su_BadText : ks_superIn K C8 C8 "__init__" = some (some (.builtin "ValueError.__init__"))) (mr_BadText : mroIn K C8 (.ref C8) = some true) (cl_BadText : isClsIn K C8 = true) (cd_BadText : codeIn K (.ref cda8) qual8 = true) (lc_BadText : K.lookup cda8 = some ⟨ccl8, cdd8, .fields vs8, ccs8⟩) (hv_BadText : vs8[2]? = some (.str file8 tf8)) (hf_BadText : ((PR.main.file : Str) == file8) = true) (lcc_BadText : K.lookup cc8 = some ⟨cl8, cld8, .cell (some (.ref C8)), csl8⟩) (hq_BadText : (q2_8.endLine == q4_8.line) = true) (tC_BadText : typeIn K (.ref I8) = some (.type "function")) (sa_BadText : findIn K (.ref C8) "__setattr__" = some (some (.builtin "object.__setattr__"))) (no_BadText : findIn K (.ref C8) "line" = some none) (hd_BadText : hasDictIn K C8 = true) (kC_BadText : keepIn K (.ref C8) = true) (ex_BadText : subIn K (.ref C8) (.type "BaseException") = some true) (ty_BadText : typeIn K (.ref C8) = some (.type "type")) (ga_BadText : findIn K (.ref C8) "__getattribute__" = some (some (.builtin "BaseException.__getattribute__"))) (gg_BadText : findIn K (.ref C8) "__getattr__" = some none) (ca_BadText : findIn K (.ref C8) "__class__" = some (some (.builtin "object.__class__"))) (cm_BadText : mroIn K C8 (.type "object") = some true) (i_BadDeed : findIn K (.ref C9) "__init__" = some (some (.ref I9))) (L_BadDeed : K.lookup I9 = some ⟨oc9, od9, .func (initF qual9 "value" m9 .none kV9 doc9 pm9 ct9 an9 cc9 cda9 p1_9 p2_9 q0_9 q1_9 q2_9 q3_9 q4_9 q5_9 q6_9 q7_9 q8_9 q9_9), osl9⟩) (qi_BadDeed : excInitIn K C9 [.type "ValueError", .type "Exception", .type "BaseException", .type "object"] "ValueError.__new__" = true) (qo_BadDeed : excOver K C9 [.type "ValueError", .type "Exception", .type "BaseException", .type "object"] = true) (sB_BadDeed : subIn K (.ref C9) (.type "ValueError") = some true) (su_BadDeed : ks_superIn K C9 C9 "__init__" = some (some (.builtin "ValueError.__init__"))) (mr_BadDeed : mroIn K C9 (.ref C9) = some true) (cl_BadDeed : isClsIn K C9 = true) (cd_BadDeed : codeIn K (.ref cda9) qual9 = true) (lc_BadDeed : K.lookup cda9 = some ⟨ccl9, cdd9, .fields vs9, ccs9⟩) (hv_BadDeed : vs9[2]? = some (.str file9 tf9)) (hf_BadDeed : ((PR.main.file : Str) == file9) = true) (lcc_BadDeed : K.lookup cc9 = some ⟨cl9, cld9, .cell (some (.ref C9)), csl9⟩) (hq_BadDeed : (q2_9.endLine == q4_9.line) = true) (tC_BadDeed : typeIn K (.ref I9) = some (.type "function")) (sa_BadDeed : findIn K (.ref C9) "__setattr__" = some (some (.builtin "object.__setattr__"))) (no_BadDeed : findIn K (.ref C9) "value" = some none) (hd_BadDeed : hasDictIn K C9 = true) (kC_BadDeed : keepIn K (.ref C9) = true) (ex_BadDeed : subIn K (.ref C9) (.type "BaseException") = some true) (ty_BadDeed : typeIn K (.ref C9) = some (.type "type")) (ga_BadDeed : findIn K (.ref C9) "__getattribute__" = some (some (.builtin "BaseException.__getattribute__"))) (gg_BadDeed : findIn K (.ref C9) "__getattr__" = some none) (ca_BadDeed : findIn K (.ref C9) "__class__" = some (some (.builtin "object.__class__"))) (cm_BadDeed : mroIn K C9 (.type "object") = some true) (i_BadMenu : findIn K (.ref C10) "__init__" = some (some (.ref I10))) (L_BadMenu : K.lookup I10 = some ⟨oc10, od10, .func (initF qual10 "number" m10 .none kV10 doc10 pm10 ct10 an10 cc10 cda10 p1_10 p2_10 q0_10 q1_10 q2_10 q3_10 q4_10 q5_10 q6_10 q7_10 q8_10 q9_10), osl10⟩) (qi_BadMenu : excInitIn K C10 [.type "ValueError", .type "Exception", .type "BaseException", .type "object"] "ValueError.__new__" = true) (qo_BadMenu : excOver K C10 [.type "ValueError", .type "Exception", .type "BaseException", .type "object"] = true) (sB_BadMenu : subIn K (.ref C10) (.type "ValueError") = some true) (su_BadMenu : ks_superIn K C10 C10 "__init__" = some (some (.builtin "ValueError.__init__"))) (mr_BadMenu : mroIn K C10 (.ref C10) = some true) (cl_BadMenu : isClsIn K C10 = true) (cd_BadMenu : codeIn K (.ref cda10) qual10 = true) (lc_BadMenu : K.lookup cda10 = some ⟨ccl10, cdd10, .fields vs10, ccs10⟩) (hv_BadMenu : vs10[2]? = some (.str file10 tf10)) (hf_BadMenu : ((PR.main.file : Str) == file10) = true) (lcc_BadMenu : K.lookup cc10 = some ⟨cl10, cld10, .cell (some (.ref C10)), csl10⟩) (hq_BadMenu : (q2_10.endLine == q4_10.line) = true) (tC_BadMenu : typeIn K (.ref I10) = some (.type "function")) (sa_BadMenu : findIn K (.ref C10) "__setattr__" = some (some (.builtin "object.__setattr__"))) (no_BadMenu : findIn K (.ref C10) "number" = some none) (hd_BadMenu : hasDictIn K C10 = true) (kC_BadMenu : keepIn K (.ref C10) = true) (ex_BadMenu : subIn K (.ref C10) (.type "BaseException") = some true) (ty_BadMenu : typeIn K (.ref C10) = some (.type "type")) (ga_BadMenu : findIn K (.ref C10) "__getattribute__" = some (some (.builtin "BaseException.__getattribute__"))) (gg_BadMenu : findIn K (.ref C10) "__getattr__" = some none) (ca_BadMenu : findIn K (.ref C10) "__class__" = some (some (.builtin "object.__class__"))) (cm_BadMenu : mroIn K C10 (.type "object") = some true) (i_BadPaid : findIn K (.ref C11) "__init__" = some (some (.ref I11))) (L_BadPaid : K.lookup I11 = some ⟨oc11, od11, .func (initF qual11 "number" m11 .none kV11 doc11 pm11 ct11 an11 cc11 cda11 p1_11 p2_11 q0_11 q1_11 q2_11 q3_11 q4_11 q5_11 q6_11 q7_11 q8_11 q9_11), osl11⟩) (qi_BadPaid : excInitIn K C11 [.type "ValueError", .type "Exception", .type "BaseException", .type "object"] "ValueError.__new__" = true) (qo_BadPaid : excOver K C11 [.type "ValueError", .type "Exception", .type "BaseException", .type "object"] = true) (sB_BadPaid : subIn K (.ref C11) (.type "ValueError") = some true) (su_BadPaid : ks_superIn K C11 C11 "__init__" = some (some (.builtin "ValueError.__init__"))) (mr_BadPaid : mroIn K C11 (.ref C11) = some true) (cl_BadPaid : isClsIn K C11 = true) (cd_BadPaid : codeIn K (.ref cda11) qual11 = true) (lc_BadPaid : K.lookup cda11 = some ⟨ccl11, cdd11, .fields vs11, ccs11⟩) (hv_BadPaid : vs11[2]? = some (.str file11 tf11)) (hf_BadPaid : ((PR.main.file : Str) == file11) = true) (lcc_BadPaid : K.lookup cc11 = some ⟨cl11, cld11, .cell (some (.ref C11)), csl11⟩) (hq_BadPaid : (q2_11.endLine == q4_11.line) = true) (tC_BadPaid : typeIn K (.ref I11) = some (.type "function")) (sa_BadPaid : findIn K (.ref C11) "__setattr__" = some (some (.builtin "object.__setattr__"))) (no_BadPaid : findIn K (.ref C11) "number" = some none) (hd_BadPaid : hasDictIn K C11 = true) (kC_BadPaid : keepIn K (.ref C11) = true) (ex_BadPaid : subIn K (.ref C11) (.type "BaseException") = some true) (ty_BadPaid : typeIn K (.ref C11) = some (.type "type")) (ga_BadPaid : findIn K (.ref C11) "__getattribute__" = some (some (.builtin "BaseException.__getattribute__"))) (gg_BadPaid : findIn K (.ref C11) "__getattr__" = some none) (ca_BadPaid : findIn K (.ref C11) "__class__" = some (some (.builtin "object.__class__"))) (cm_BadPaid : mroIn K C11 (.type "object") = some true) (i_BadWishes : findIn K (.ref C12) "__init__" = some (some (.ref I12))) (L_BadWishes : K.lookup I12 = some ⟨oc12, od12, .func (initF qual12 "value" m12 .none kV12 doc12 pm12 ct12 an12 cc12 cda12 p1_12 p2_12 q0_12 q1_12 q2_12 q3_12 q4_12 q5_12 q6_12 q7_12 q8_12 q9_12), osl12⟩) (qi_BadWishes : excInitIn K C12 [.type "ValueError", .type "Exception", .type "BaseException", .type "object"] "ValueError.__new__" = true) (qo_BadWishes : excOver K C12 [.type "ValueError", .type "Exception", .type "BaseException", .type "object"] = true) (sB_BadWishes : subIn K (.ref C12) (.type "ValueError") = some true) (su_BadWishes : ks_superIn K C12 C12 "__init__" = some (some (.builtin "ValueError.__init__"))) (mr_BadWishes : mroIn K C12 (.ref C12) = some true) (cl_BadWishes : isClsIn K C12 = true) (cd_BadWishes : codeIn K (.ref cda12) qual12 = true) (lc_BadWishes : K.lookup cda12 = some ⟨ccl12, cdd12, .fields vs12, ccs12⟩) (hv_BadWishes : vs12[2]? = some (.str file12 tf12)) (hf_BadWishes : ((PR.main.file : Str) == file12) = true) (lcc_BadWishes : K.lookup cc12 = some ⟨cl12, cld12, .cell (some (.ref C12)), csl12⟩) (hq_BadWishes : (q2_12.endLine == q4_12.line) = true) (tC_BadWishes : typeIn K (.ref I12) = some (.type "function")) (sa_BadWishes : findIn K (.ref C12) "__setattr__" = some (some (.builtin "object.__setattr__"))) (no_BadWishes : findIn K (.ref C12) "value" = some none) (hd_BadWishes : hasDictIn K C12 = true) (kC_BadWishes : keepIn K (.ref C12) = true) (ex_BadWishes : subIn K (.ref C12) (.type "BaseException") = some true) (ty_BadWishes : typeIn K (.ref C12) = some (.type "type")) (ga_BadWishes : findIn K (.ref C12) "__getattribute__" = some (some (.builtin "BaseException.__getattribute__"))) (gg_BadWishes : findIn K (.ref C12) "__getattr__" = some none) (ca_BadWishes : findIn K (.ref C12) "__class__" = some (some (.builtin "object.__class__"))) (cm_BadWishes : mroIn K C12 (.type "object") = some true) (i_TooGreat : findIn K (.ref C13) "__init__" = some (some (.ref I13))) (L_TooGreat : K.lookup I13 = some ⟨oc13, od13, .func (initF qual13 "most" m13 .none kV13 doc13 pm13 ct13 an13 cc13 cda13 p1_13 p2_13 q0_13 q1_13 q2_13 q3_13 q4_13 q5_13 q6_13 q7_13 q8_13 q9_13), osl13⟩) (qi_TooGreat : excInitIn K C13 [.type "OverflowError", .type "ArithmeticError", .type "Exception", .type "BaseException", .type "object"] "OverflowError.__new__" = true) (qo_TooGreat : excOver K C13 [.type "OverflowError", .type "ArithmeticError", .type "Exception", .type "BaseException", .type "object"] = true) (sB_TooGreat : subIn K (.ref C13) (.type "OverflowError") = some true) (su_TooGreat : ks_superIn K C13 C13 "__init__" = some (some (.builtin "OverflowError.__init__"))) (mr_TooGreat : mroIn K C13 (.ref C13) = some true) (cl_TooGreat : isClsIn K C13 = true) (cd_TooGreat : codeIn K (.ref cda13) qual13 = true) (lc_TooGreat : K.lookup cda13 = some ⟨ccl13, cdd13, .fields vs13, ccs13⟩) (hv_TooGreat : vs13[2]? = some (.str file13 tf13)) (hf_TooGreat : ((PR.main.file : Str) == file13) = true) (lcc_TooGreat : K.lookup cc13 = some ⟨cl13, cld13, .cell (some (.ref C13)), csl13⟩) (hq_TooGreat : (q2_13.endLine == q4_13.line) = true) (tC_TooGreat : typeIn K (.ref I13) = some (.type "function")) (sa_TooGreat : findIn K (.ref C13) "__setattr__" = some (some (.builtin "object.__setattr__"))) (no_TooGreat : findIn K (.ref C13) "most" = some none) (hd_TooGreat : hasDictIn K C13 = true) (kC_TooGreat : keepIn K (.ref C13) = true) (ex_TooGreat : subIn K (.ref C13) (.type "BaseException") = some true) (ty_TooGreat : typeIn K (.ref C13) = some (.type "type")) (ga_TooGreat : findIn K (.ref C13) "__getattribute__" = some (some (.builtin "BaseException.__getattribute__"))) (gg_TooGreat : findIn K (.ref C13) "__getattr__" = some none) (ca_TooGreat : findIn K (.ref C13) "__class__" = some (some (.builtin "object.__class__"))) (cm_TooGreat : mroIn K C13 (.type "object") = some true) (i_Nothing : findIn K (.ref C14) "__init__" = some (some (.ref I14))) (L_Nothing : K.lookup I14 = some ⟨oc14, od14, .func (initF qual14 "value" m14 .none kV14 doc14 pm14 ct14 an14 cc14 cda14 p1_14 p2_14 q0_14 q1_14 q2_14 q3_14 q4_14 q5_14 q6_14 q7_14 q8_14 q9_14), osl14⟩) (qi_Nothing : excInitIn K C14 [.type "LookupError", .type "Exception", .type "BaseException", .type "object"] "LookupError.__new__" = true) (qo_Nothing : excOver K C14 [.type "LookupError", .type "Exception", .type "BaseException", .type "object"] = true) (sB_Nothing : subIn K (.ref C14) (.type "LookupError") = some true) (su_Nothing : ks_superIn K C14 C14 "__init__" = some (some (.builtin "LookupError.__init__"))) (mr_Nothing : mroIn K C14 (.ref C14) = some true) (cl_Nothing : isClsIn K C14 = true) (cd_Nothing : codeIn K (.ref cda14) qual14 = true) (lc_Nothing : K.lookup cda14 = some ⟨ccl14, cdd14, .fields vs14, ccs14⟩) (hv_Nothing : vs14[2]? = some (.str file14 tf14)) (hf_Nothing : ((PR.main.file : Str) == file14) = true) (lcc_Nothing : K.lookup cc14 = some ⟨cl14, cld14, .cell (some (.ref C14)), csl14⟩) (hq_Nothing : (q2_14.endLine == q4_14.line) = true) (tC_Nothing : typeIn K (.ref I14) = some (.type "function")) (sa_Nothing : findIn K (.ref C14) "__setattr__" = some (some (.builtin "object.__setattr__"))) (no_Nothing : findIn K (.ref C14) "value" = some none) (hd_Nothing : hasDictIn K C14 = true) (kC_Nothing : keepIn K (.ref C14) = true) (ex_Nothing : subIn K (.ref C14) (.type "BaseException") = some true) (ty_Nothing : typeIn K (.ref C14) = some (.type "type")) (ga_Nothing : findIn K (.ref C14) "__getattribute__" = some (some (.builtin "BaseException.__getattribute__"))) (gg_Nothing : findIn K (.ref C14) "__getattr__" = some none) (ca_Nothing : findIn K (.ref C14) "__class__" = some (some (.builtin "object.__class__"))) (cm_Nothing : mroIn K C14 (.type "object") = some true) (t_BadRule_14 : kitOne K (.ref C14) (.ref C1) = some false) (t_BadRule_13 : kitOne K (.ref C13) (.ref C1) = some false) (t_BadRule_12 : kitOne K (.ref C12) (.ref C1) = some false) (t_BadRule_11 : kitOne K (.ref C11) (.ref C1) = some false) (t_BadRule_10 : kitOne K (.ref C10) (.ref C1) = some false) (t_BadRule_9 : kitOne K (.ref C9) (.ref C1) = some false) (t_BadRule_8 : kitOne K (.ref C8) (.ref C1) = some false) (t_BadRule_7 : kitOne K (.ref C7) (.ref C1) = some false) (t_BadRule_6 : kitOne K (.ref C6) (.ref C1) = some false) (t_BadRule_5 : kitOne K (.ref C5) (.ref C1) = some false) (t_BadRule_4 : kitOne K (.ref C4) (.ref C1) = some false) (t_BadRule_3 : kitOne K (.ref C3) (.ref C1) = some false) (t_BadRule_2 : kitOne K (.ref C2) (.ref C1) = some false) (t_BadRule_1 : kitOne K (.ref C1) (.ref C1) = some true) (t_BadRule_0 : kitOne K (.ref C0) (.ref C1) = some false) (t_BadPaper_14 : kitOne K (.ref C14) (.ref C7) = some false) (t_BadPaper_13 : kitOne K (.ref C13) (.ref C7) = some false) (t_BadPaper_12 : kitOne K (.ref C12) (.ref C7) = some false) (t_BadPaper_11 : kitOne K (.ref C11) (.ref C7) = some false) (t_BadPaper_10 : kitOne K (.ref C10) (.ref C7) = some false) (t_BadPaper_9 : kitOne K (.ref C9) (.ref C7) = some false) (t_BadPaper_8 : kitOne K (.ref C8) (.ref C7) = some false) (t_BadPaper_7 : kitOne K (.ref C7) (.ref C7) = some true) (t_BadPaper_6 : kitOne K (.ref C6) (.ref C7) = some false) (t_BadPaper_5 : kitOne K (.ref C5) (.ref C7) = some false) (t_BadPaper_4 : kitOne K (.ref C4) (.ref C7) = some false) (t_BadPaper_3 : kitOne K (.ref C3) (.ref C7) = some false) (t_BadPaper_2 : kitOne K (.ref C2) (.ref C7) = some false) (t_BadPaper_1 : kitOne K (.ref C1) (.ref C7) = some false) (t_BadPaper_0 : kitOne K (.ref C0) (.ref C7) = some false) (t_BadKind_14 : kitOne K (.ref C14) (.ref C3) = some false) (t_BadKind_13 : kitOne K (.ref C13) (.ref C3) = some false) (t_BadKind_12 : kitOne K (.ref C12) (.ref C3) = some false) (t_BadKind_11 : kitOne K (.ref C11) (.ref C3) = some false) (t_BadKind_10 : kitOne K (.ref C10) (.ref C3) = some false) (t_BadKind_9 : kitOne K (.ref C9) (.ref C3) = some false) (t_BadKind_8 : kitOne K (.ref C8) (.ref C3) = some false) (t_BadKind_7 : kitOne K (.ref C7) (.ref C3) = some false) (t_BadKind_6 : kitOne K (.ref C6) (.ref C3) = some false) (t_BadKind_5 : kitOne K (.ref C5) (.ref C3) = some false) (t_BadKind_4 : kitOne K (.ref C4) (.ref C3) = some false) (t_BadKind_3 : kitOne K (.ref C3) (.ref C3) = some true) (t_BadKind_2 : kitOne K (.ref C2) (.ref C3) = some false) (t_BadKind_1 : kitOne K (.ref C1) (.ref C3) = some false) (t_BadKind_0 : kitOne K (.ref C0) (.ref C3) = some false) (t_BadNumber_14 : kitOne K (.ref C14) (.ref C4) = some false) (t_BadNumber_13 : kitOne K (.ref C13) (.ref C4) = some false) (t_BadNumber_12 : kitOne K (.ref C12) (.ref C4) = some false) (t_BadNumber_11 : kitOne K (.ref C11) (.ref C4) = some false) (t_BadNumber_10 : kitOne K (.ref C10) (.ref C4) = some false) (t_BadNumber_9 : kitOne K (.ref C9) (.ref C4) = some false) (t_BadNumber_8 : kitOne K (.ref C8) (.ref C4) = some false) (t_BadNumber_7 : kitOne K (.ref C7) (.ref C4) = some false) (t_BadNumber_6 : kitOne K (.ref C6) (.ref C4) = some false) (t_BadNumber_5 : kitOne K (.ref C5) (.ref C4) = some false) (t_BadNumber_4 : kitOne K (.ref C4) (.ref C4) = some true) (t_BadNumber_3 : kitOne K (.ref C3) (.ref C4) = some false) (t_BadNumber_2 : kitOne K (.ref C2) (.ref C4) = some false) (t_BadNumber_1 : kitOne K (.ref C1) (.ref C4) = some false) (t_BadNumber_0 : kitOne K (.ref C0) (.ref C4) = some false) (t_BadStanding_14 : kitOne K (.ref C14) (.ref C5) = some false) (t_BadStanding_13 : kitOne K (.ref C13) (.ref C5) = some false) (t_BadStanding_12 : kitOne K (.ref C12) (.ref C5) = some false) (t_BadStanding_11 : kitOne K (.ref C11) (.ref C5) = some false) (t_BadStanding_10 : kitOne K (.ref C10) (.ref C5) = some false) (t_BadStanding_9 : kitOne K (.ref C9) (.ref C5) = some false) (t_BadStanding_8 : kitOne K (.ref C8) (.ref C5) = some false) (t_BadStanding_7 : kitOne K (.ref C7) (.ref C5) = some false) (t_BadStanding_6 : kitOne K (.ref C6) (.ref C5) = some false) (t_BadStanding_5 : kitOne K (.ref C5) (.ref C5) = some true) (t_BadStanding_4 : kitOne K (.ref C4) (.ref C5) = some false) (t_BadStanding_3 : kitOne K (.ref C3) (.ref C5) = some false) (t_BadStanding_2 : kitOne K (.ref C2) (.ref C5) = some false) (t_BadStanding_1 : kitOne K (.ref C1) (.ref C5) = some false) (t_BadStanding_0 : kitOne K (.ref C0) (.ref C5) = some false) (t_BadFraction_14 : kitOne K (.ref C14) (.ref C6) = some false) (t_BadFraction_13 : kitOne K (.ref C13) (.ref C6) = some false) (t_BadFraction_12 : kitOne K (.ref C12) (.ref C6) = some false) (t_BadFraction_11 : kitOne K (.ref C11) (.ref C6) = some false) (t_BadFraction_10 : kitOne K (.ref C10) (.ref C6) = some false) (t_BadFraction_9 : kitOne K (.ref C9) (.ref C6) = some false) (t_BadFraction_8 : kitOne K (.ref C8) (.ref C6) = some false) (t_BadFraction_7 : kitOne K (.ref C7) (.ref C6) = some false) (t_BadFraction_6 : kitOne K (.ref C6) (.ref C6) = some true) (t_BadFraction_5 : kitOne K (.ref C5) (.ref C6) = some false) (t_BadFraction_4 : kitOne K (.ref C4) (.ref C6) = some false) (t_BadFraction_3 : kitOne K (.ref C3) (.ref C6) = some false) (t_BadFraction_2 : kitOne K (.ref C2) (.ref C6) = some false) (t_BadFraction_1 : kitOne K (.ref C1) (.ref C6) = some false) (t_BadFraction_0 : kitOne K (.ref C0) (.ref C6) = some false) (t_BadDeed_14 : kitOne K (.ref C14) (.ref C9) = some false) (t_BadDeed_13 : kitOne K (.ref C13) (.ref C9) = some false) (t_BadDeed_12 : kitOne K (.ref C12) (.ref C9) = some false) (t_BadDeed_11 : kitOne K (.ref C11) (.ref C9) = some false) (t_BadDeed_10 : kitOne K (.ref C10) (.ref C9) = some false) (t_BadDeed_9 : kitOne K (.ref C9) (.ref C9) = some true) (t_BadDeed_8 : kitOne K (.ref C8) (.ref C9) = some false) (t_BadDeed_7 : kitOne K (.ref C7) (.ref C9) = some false) (t_BadDeed_6 : kitOne K (.ref C6) (.ref C9) = some false) (t_BadDeed_5 : kitOne K (.ref C5) (.ref C9) = some false) (t_BadDeed_4 : kitOne K (.ref C4) (.ref C9) = some false) (t_BadDeed_3 : kitOne K (.ref C3) (.ref C9) = some false) (t_BadDeed_2 : kitOne K (.ref C2) (.ref C9) = some false) (t_BadDeed_1 : kitOne K (.ref C1) (.ref C9) = some false) (t_BadDeed_0 : kitOne K (.ref C0) (.ref C9) = some false) (t_BadWishes_14 : kitOne K (.ref C14) (.ref C12) = some false) (t_BadWishes_13 : kitOne K (.ref C13) (.ref C12) = some false) (t_BadWishes_12 : kitOne K (.ref C12) (.ref C12) = some true) (t_BadWishes_11 : kitOne K (.ref C11) (.ref C12) = some false) (t_BadWishes_10 : kitOne K (.ref C10) (.ref C12) = some false) (t_BadWishes_9 : kitOne K (.ref C9) (.ref C12) = some false) (t_BadWishes_8 : kitOne K (.ref C8) (.ref C12) = some false) (t_BadWishes_7 : kitOne K (.ref C7) (.ref C12) = some false) (t_BadWishes_6 : kitOne K (.ref C6) (.ref C12) = some false) (t_BadWishes_5 : kitOne K (.ref C5) (.ref C12) = some false) (t_BadWishes_4 : kitOne K (.ref C4) (.ref C12) = some false) (t_BadWishes_3 : kitOne K (.ref C3) (.ref C12) = some false) (t_BadWishes_2 : kitOne K (.ref C2) (.ref C12) = some false) (t_BadWishes_1 : kitOne K (.ref C1) (.ref C12) = some false) (t_BadWishes_0 : kitOne K (.ref C0) (.ref C12) = some false) (t_Nothing_14 : kitOne K (.ref C14) (.ref C14) = some true) (t_Nothing_13 : kitOne K (.ref C13) (.ref C14) = some false) (t_Nothing_12 : kitOne K (.ref C12) (.ref C14) = some false) (t_Nothing_11 : kitOne K (.ref C11) (.ref C14) = some false) (t_Nothing_10 : kitOne K (.ref C10) (.ref C14) = some false) (t_Nothing_9 : kitOne K (.ref C9) (.ref C14) = some false) (t_Nothing_8 : kitOne K (.ref C8) (.ref C14) = some false) (t_Nothing_7 : kitOne K (.ref C7) (.ref C14) = some false) (t_Nothing_6 : kitOne K (.ref C6) (.ref C14) = some false) (t_Nothing_5 : kitOne K (.ref C5) (.ref C14) = some false) (t_Nothing_4 : kitOne K (.ref C4) (.ref C14) = some false) (t_Nothing_3 : kitOne K (.ref C3) (.ref C14) = some false) (t_Nothing_2 : kitOne K (.ref C2) (.ref C14) = some false) (t_Nothing_1 : kitOne K (.ref C1) (.ref C14) = some false) (t_Nothing_0 : kitOne K (.ref C0) (.ref C14) = some false) (t_BadJourney_14 : kitOne K (.ref C14) (.ref C2) = some false) (t_BadJourney_13 : kitOne K (.ref C13) (.ref C2) = some false) (t_BadJourney_12 : kitOne K (.ref C12) (.ref C2) = some false) (t_BadJourney_11 : kitOne K (.ref C11) (.ref C2) = some false) (t_BadJourney_10 : kitOne K (.ref C10) (.ref C2) = some false) (t_BadJourney_9 : kitOne K (.ref C9) (.ref C2) = some false) (t_BadJourney_8 : kitOne K (.ref C8) (.ref C2) = some false) (t_BadJourney_7 : kitOne K (.ref C7) (.ref C2) = some false) (t_BadJourney_6 : kitOne K (.ref C6) (.ref C2) = some false) (t_BadJourney_5 : kitOne K (.ref C5) (.ref C2) = some false) (t_BadJourney_4 : kitOne K (.ref C4) (.ref C2) = some false) (t_BadJourney_3 : kitOne K (.ref C3) (.ref C2) = some false) (t_BadJourney_2 : kitOne K (.ref C2) (.ref C2) = some true) (t_BadJourney_1 : kitOne K (.ref C1) (.ref C2) = some false) (t_BadJourney_0 : kitOne K (.ref C0) (.ref C2) = some false) (t_BadMenu_14 : kitOne K (.ref C14) (.ref C10) = some false) (t_BadMenu_13 : kitOne K (.ref C13) (.ref C10) = some false) (t_BadMenu_12 : kitOne K (.ref C12) (.ref C10) = some false) (t_BadMenu_11 : kitOne K (.ref C11) (.ref C10) = some false) (t_BadMenu_10 : kitOne K (.ref C10) (.ref C10) = some true) (t_BadMenu_9 : kitOne K (.ref C9) (.ref C10) = some false) (t_BadMenu_8 : kitOne K (.ref C8) (.ref C10) = some false) (t_BadMenu_7 : kitOne K (.ref C7) (.ref C10) = some false) (t_BadMenu_6 : kitOne K (.ref C6) (.ref C10) = some false) (t_BadMenu_5 : kitOne K (.ref C5) (.ref C10) = some false) (t_BadMenu_4 : kitOne K (.ref C4) (.ref C10) = some false) (t_BadMenu_3 : kitOne K (.ref C3) (.ref C10) = some false) (t_BadMenu_2 : kitOne K (.ref C2) (.ref C10) = some false) (t_BadMenu_1 : kitOne K (.ref C1) (.ref C10) = some false) (t_BadMenu_0 : kitOne K (.ref C0) (.ref C10) = some false) (t_BadPaid_14 : kitOne K (.ref C14) (.ref C11) = some false) (t_BadPaid_13 : kitOne K (.ref C13) (.ref C11) = some false) (t_BadPaid_12 : kitOne K (.ref C12) (.ref C11) = some false) (t_BadPaid_11 : kitOne K (.ref C11) (.ref C11) = some true) (t_BadPaid_10 : kitOne K (.ref C10) (.ref C11) = some false) (t_BadPaid_9 : kitOne K (.ref C9) (.ref C11) = some false) (t_BadPaid_8 : kitOne K (.ref C8) (.ref C11) = some false) (t_BadPaid_7 : kitOne K (.ref C7) (.ref C11) = some false) (t_BadPaid_6 : kitOne K (.ref C6) (.ref C11) = some false) (t_BadPaid_5 : kitOne K (.ref C5) (.ref C11) = some false) (t_BadPaid_4 : kitOne K (.ref C4) (.ref C11) = some false) (t_BadPaid_3 : kitOne K (.ref C3) (.ref C11) = some false) (t_BadPaid_2 : kitOne K (.ref C2) (.ref C11) = some false) (t_BadPaid_1 : kitOne K (.ref C1) (.ref C11) = some false) (t_BadPaid_0 : kitOne K (.ref C0) (.ref C11) = some false) (t_BadText_14 : kitOne K (.ref C14) (.ref C8) = some false) (t_BadText_13 : kitOne K (.ref C13) (.ref C8) = some false) (t_BadText_12 : kitOne K (.ref C12) (.ref C8) = some false) (t_BadText_11 : kitOne K (.ref C11) (.ref C8) = some false) (t_BadText_10 : kitOne K (.ref C10) (.ref C8) = some false) (t_BadText_9 : kitOne K (.ref C9) (.ref C8) = some false) (t_BadText_8 : kitOne K (.ref C8) (.ref C8) = some true) (t_BadText_7 : kitOne K (.ref C7) (.ref C8) = some false) (t_BadText_6 : kitOne K (.ref C6) (.ref C8) = some false) (t_BadText_5 : kitOne K (.ref C5) (.ref C8) = some false) (t_BadText_4 : kitOne K (.ref C4) (.ref C8) = some false) (t_BadText_3 : kitOne K (.ref C3) (.ref C8) = some false) (t_BadText_2 : kitOne K (.ref C2) (.ref C8) = some false) (t_BadText_1 : kitOne K (.ref C1) (.ref C8) = some false) (t_BadText_0 : kitOne K (.ref C0) (.ref C8) = some false) (t_TooGreat_14 : kitOne K (.ref C14) (.ref C13) = some false) (t_TooGreat_13 : kitOne K (.ref C13) (.ref C13) = some true) (t_TooGreat_12 : kitOne K (.ref C12) (.ref C13) = some false) (t_TooGreat_11 : kitOne K (.ref C11) (.ref C13) = some false) (t_TooGreat_10 : kitOne K (.ref C10) (.ref C13) = some false) (t_TooGreat_9 : kitOne K (.ref C9) (.ref C13) = some false) (t_TooGreat_8 : kitOne K (.ref C8) (.ref C13) = some false) (t_TooGreat_7 : kitOne K (.ref C7) (.ref C13) = some false) (t_TooGreat_6 : kitOne K (.ref C6) (.ref C13) = some false) (t_TooGreat_5 : kitOne K (.ref C5) (.ref C13) = some false) (t_TooGreat_4 : kitOne K (.ref C4) (.ref C13) = some false) (t_TooGreat_3 : kitOne K (.ref C3) (.ref C13) = some false) (t_TooGreat_2 : kitOne K (.ref C2) (.ref C13) = some false) (t_TooGreat_1 : kitOne K (.ref C1) (.ref C13) = some false) (t_TooGreat_0 : kitOne K (.ref C0) (.ref C13) = some false) (t_ShareError_14 : kitOne K (.ref C14) (.ref C0) = some false) (t_ShareError_13 : kitOne K (.ref C13) (.ref C0) = some false) (t_ShareError_12 : kitOne K (.ref C12) (.ref C0) = some true) (t_ShareError_11 : kitOne K (.ref C11) (.ref C0) = some true) (t_ShareError_10 : kitOne K (.ref C10) (.ref C0) = some true) (t_ShareError_9 : kitOne K (.ref C9) (.ref C0) = some true) (t_ShareError_8 : kitOne K (.ref C8) (.ref C0) = some true) (t_ShareError_7 : kitOne K (.ref C7) (.ref C0) = some true) (t_ShareError_6 : kitOne K (.ref C6) (.ref C0) = some true) (t_ShareError_5 : kitOne K (.ref C5) (.ref C0) = some true) (t_ShareError_4 : kitOne K (.ref C4) (.ref C0) = some true) (t_ShareError_3 : kitOne K (.ref C3) (.ref C0) = some true) (t_ShareError_2 : kitOne K (.ref C2) (.ref C0) = some true) (t_ShareError_1 : kitOne K (.ref C1) (.ref C0) = some true) (t_ShareError_0 : kitOne K (.ref C0) (.ref C0) = some true) (t_ValueError_14 : kitOne K (.ref C14) (.type "ValueError") = some false) (t_ValueError_13 : kitOne K (.ref C13) (.type "ValueError") = some false) (t_ValueError_12 : kitOne K (.ref C12) (.type "ValueError") = some true) (t_ValueError_11 : kitOne K (.ref C11) (.type "ValueError") = some true) (t_ValueError_10 : kitOne K (.ref C10) (.type "ValueError") = some true) (t_ValueError_9 : kitOne K (.ref C9) (.type "ValueError") = some true) (t_ValueError_8 : kitOne K (.ref C8) (.type "ValueError") = some true) (t_ValueError_7 : kitOne K (.ref C7) (.type "ValueError") = some true) (t_ValueError_6 : kitOne K (.ref C6) (.type "ValueError") = some true) (t_ValueError_5 : kitOne K (.ref C5) (.type "ValueError") = some true) (t_ValueError_4 : kitOne K (.ref C4) (.type "ValueError") = some true) (t_ValueError_3 : kitOne K (.ref C3) (.type "ValueError") = some true) (t_ValueError_2 : kitOne K (.ref C2) (.type "ValueError") = some true) (t_ValueError_1 : kitOne K (.ref C1) (.type "ValueError") = some true) (t_ValueError_0 : kitOne K (.ref C0) (.type "ValueError") = some true) (z_ValueError : nsIn K mainGlobals "ValueError" = some none) (t_LookupError_14 : kitOne K (.ref C14) (.type "LookupError") = some true) (t_LookupError_13 : kitOne K (.ref C13) (.type "LookupError") = some false) (t_LookupError_12 : kitOne K (.ref C12) (.type "LookupError") = some false) (t_LookupError_11 : kitOne K (.ref C11) (.type "LookupError") = some false) (t_LookupError_10 : kitOne K (.ref C10) (.type "LookupError") = some false) (t_LookupError_9 : kitOne K (.ref C9) (.type "LookupError") = some false) (t_LookupError_8 : kitOne K (.ref C8) (.type "LookupError") = some false) (t_LookupError_7 : kitOne K (.ref C7) (.type "LookupError") = some false) (t_LookupError_6 : kitOne K (.ref C6) (.type "LookupError") = some false) (t_LookupError_5 : kitOne K (.ref C5) (.type "LookupError") = some false) (t_LookupError_4 : kitOne K (.ref C4) (.type "LookupError") = some false) (t_LookupError_3 : kitOne K (.ref C3) (.type "LookupError") = some false) (t_LookupError_2 : kitOne K (.ref C2) (.type "LookupError") = some false) (t_LookupError_1 : kitOne K (.ref C1) (.type "LookupError") = some false) (t_LookupError_0 : kitOne K (.ref C0) (.type "LookupError") = some false) (z_LookupError : nsIn K mainGlobals "LookupError" = some none) (t_OverflowError_14 : kitOne K (.ref C14) (.type "OverflowError") = some false) (t_OverflowError_13 : kitOne K (.ref C13) (.type "OverflowError") = some true) (t_OverflowError_12 : kitOne K (.ref C12) (.type "OverflowError") = some false) (t_OverflowError_11 : kitOne K (.ref C11) (.type "OverflowError") = some false) (t_OverflowError_10 : kitOne K (.ref C10) (.type "OverflowError") = some false) (t_OverflowError_9 : kitOne K (.ref C9) (.type "OverflowError") = some false) (t_OverflowError_8 : kitOne K (.ref C8) (.type "OverflowError") = some false) (t_OverflowError_7 : kitOne K (.ref C7) (.type "OverflowError") = some false) (t_OverflowError_6 : kitOne K (.ref C6) (.type "OverflowError") = some false) (t_OverflowError_5 : kitOne K (.ref C5) (.type "OverflowError") = some false) (t_OverflowError_4 : kitOne K (.ref C4) (.type "OverflowError") = some false) (t_OverflowError_3 : kitOne K (.ref C3) (.type "OverflowError") = some false) (t_OverflowError_2 : kitOne K (.ref C2) (.type "OverflowError") = some false) (t_OverflowError_1 : kitOne K (.ref C1) (.type "OverflowError") = some false) (t_OverflowError_0 : kitOne K (.ref C0) (.type "OverflowError") = some false) (z_OverflowError : nsIn K mainGlobals "OverflowError" = some none) (t_TypeError_14 : kitOne K (.ref C14) (.type "TypeError") = some false) (t_TypeError_13 : kitOne K (.ref C13) (.type "TypeError") = some false) (t_TypeError_12 : kitOne K (.ref C12) (.type "TypeError") = some false) (t_TypeError_11 : kitOne K (.ref C11) (.type "TypeError") = some false) (t_TypeError_10 : kitOne K (.ref C10) (.type "TypeError") = some false) (t_TypeError_9 : kitOne K (.ref C9) (.type "TypeError") = some false) (t_TypeError_8 : kitOne K (.ref C8) (.type "TypeError") = some false) (t_TypeError_7 : kitOne K (.ref C7) (.type "TypeError") = some false) (t_TypeError_6 : kitOne K (.ref C6) (.type "TypeError") = some false) (t_TypeError_5 : kitOne K (.ref C5) (.type "TypeError") = some false) (t_TypeError_4 : kitOne K (.ref C4) (.type "TypeError") = some false) (t_TypeError_3 : kitOne K (.ref C3) (.type "TypeError") = some false) (t_TypeError_2 : kitOne K (.ref C2) (.type "TypeError") = some false) (t_TypeError_1 : kitOne K (.ref C1) (.type "TypeError") = some false) (t_TypeError_0 : kitOne K (.ref C0) (.type "TypeError") = some false) (z_TypeError : nsIn K mainGlobals "TypeError" = some none) (s_ShareError_0 : subIn K (.ref C0) (.ref C0) = some true) (s_ShareError_1 : subIn K (.ref C1) (.ref C0) = some true) (s_ShareError_2 : subIn K (.ref C2) (.ref C0) = some true) (s_ShareError_3 : subIn K (.ref C3) (.ref C0) = some true) (s_ShareError_4 : subIn K (.ref C4) (.ref C0) = some true) (s_ShareError_5 : subIn K (.ref C5) (.ref C0) = some true) (s_ShareError_6 : subIn K (.ref C6) (.ref C0) = some true) (s_ShareError_7 : subIn K (.ref C7) (.ref C0) = some true) (s_ShareError_8 : subIn K (.ref C8) (.ref C0) = some true) (s_ShareError_9 : subIn K (.ref C9) (.ref C0) = some true) (s_ShareError_10 : subIn K (.ref C10) (.ref C0) = some true) (s_ShareError_11 : subIn K (.ref C11) (.ref C0) = some true) (s_ShareError_12 : subIn K (.ref C12) (.ref C0) = some true) (s_ShareError_13 : subIn K (.ref C13) (.ref C0) = some false) (s_ShareError_14 : subIn K (.ref C14) (.ref C0) = some false) :
    ∃ (ec : List (Addr × Str)) (fd : FuncData), (∀ (s : Shared) (u : Value), BindsTo s fd ⟨[u], []⟩ [("script", u)]) ∧ ∀ base : Heap, K.In base → base.Ns mainGlobals mg → SysM base → FnG PR w K mg base (L2.CX PR w) 5 fa fd ["script"] (spOf ⟨K, ec⟩ 1 f_law) := by
  have e := hfa.symm.trans (mg_of X G a_law)
  cases e
  have T : Txt K mg [(C0, ""), (C1, "part"), (C2, "number"), (C3, "value"), (C4, "value"), (C5, "value"), (C6, "value"), (C7, "part"), (C8, "line"), (C9, "value"), (C10, "number"), (C11, "number"), (C12, "value"), (C13, "most"), (C14, "value")] := {
    d__law_begun := dn_mk X G a__law_begun l__law_begun c__law_begun k__law_begun
    d__law_draw := dn_mk X G a__law_draw l__law_draw c__law_draw k__law_draw
    d__law_of := dn_mk X G a__law_of l__law_of c__law_of k__law_of
    d__law_pairs := dn_mk X G a__law_pairs l__law_pairs c__law_pairs k__law_pairs
    d__law_marks := dn_mk X G a__law_marks l__law_marks c__law_marks k__law_marks
    d__law_above := dn_mk X G a__law_above l__law_above c__law_above k__law_above
    d__law_field := dn_mk X G a__law_field l__law_field c__law_field k__law_field
    d__law_right := dn_mk X G a__law_right l__law_right c__law_right k__law_right
    d_law := dn_mk X G a_law l_law c_law k_law
    b_enumerate := mg_none_of X G b_enumerate
    b_int := mg_none_of X G b_int
    b_isinstance := mg_none_of X G b_isinstance
    b_len := mg_none_of X G b_len
    b_list := mg_none_of X G b_list
    b_min := mg_none_of X G b_min
    b_range := mg_none_of X G b_range
    b_repr := mg_none_of X G b_repr
    e_ShareError := ⟨_, _, _, _, _, PySem.F.excBase_ValueError, xi_ShareError, rfl, mg_of X G a_ShareError, kC_ShareError⟩
    e_BadRule := errM_mk X G a_BadRule (errC_mk PySem.F.excBase_ValueError PySem.F.store_ValueError kxs_ValueError i_BadRule L_BadRule qi_BadRule qo_BadRule sB_BadRule su_BadRule mr_BadRule cl_BadRule cd_BadRule lc_BadRule hv_BadRule hf_BadRule lcc_BadRule hq_BadRule (fun _ _ _ => .of_eq rfl) (fun _ _ _ => .of_eq rfl) sup (by decide +kernel) tpa tC_BadRule sa_BadRule no_BadRule hd_BadRule (by decide) (by decide) (by decide) (by decide)) rfl kC_BadRule ex_BadRule ty_BadRule
    e_BadJourney := errM_mk X G a_BadJourney (errC_mk PySem.F.excBase_ValueError PySem.F.store_ValueError kxs_ValueError i_BadJourney L_BadJourney qi_BadJourney qo_BadJourney sB_BadJourney su_BadJourney mr_BadJourney cl_BadJourney cd_BadJourney lc_BadJourney hv_BadJourney hf_BadJourney lcc_BadJourney hq_BadJourney (fun _ _ _ => .of_eq rfl) (fun _ _ _ => .of_eq rfl) sup (by decide +kernel) tpa tC_BadJourney sa_BadJourney no_BadJourney hd_BadJourney (by decide) (by decide) (by decide) (by decide)) rfl kC_BadJourney ex_BadJourney ty_BadJourney
    e_BadKind := errM_mk X G a_BadKind (errC_mk PySem.F.excBase_ValueError PySem.F.store_ValueError kxs_ValueError i_BadKind L_BadKind qi_BadKind qo_BadKind sB_BadKind su_BadKind mr_BadKind cl_BadKind cd_BadKind lc_BadKind hv_BadKind hf_BadKind lcc_BadKind hq_BadKind (fun _ _ _ => .of_eq rfl) (fun _ _ _ => .of_eq rfl) sup (by decide +kernel) tpa tC_BadKind sa_BadKind no_BadKind hd_BadKind (by decide) (by decide) (by decide) (by decide)) rfl kC_BadKind ex_BadKind ty_BadKind
    e_BadNumber := errM_mk X G a_BadNumber (errC_mk PySem.F.excBase_ValueError PySem.F.store_ValueError kxs_ValueError i_BadNumber L_BadNumber qi_BadNumber qo_BadNumber sB_BadNumber su_BadNumber mr_BadNumber cl_BadNumber cd_BadNumber lc_BadNumber hv_BadNumber hf_BadNumber lcc_BadNumber hq_BadNumber (fun _ _ _ => .of_eq rfl) (fun _ _ _ => .of_eq rfl) sup (by decide +kernel) tpa tC_BadNumber sa_BadNumber no_BadNumber hd_BadNumber (by decide) (by decide) (by decide) (by decide)) rfl kC_BadNumber ex_BadNumber ty_BadNumber
    e_BadStanding := errM_mk X G a_BadStanding (errC_mk PySem.F.excBase_ValueError PySem.F.store_ValueError kxs_ValueError i_BadStanding L_BadStanding qi_BadStanding qo_BadStanding sB_BadStanding su_BadStanding mr_BadStanding cl_BadStanding cd_BadStanding lc_BadStanding hv_BadStanding hf_BadStanding lcc_BadStanding hq_BadStanding (fun _ _ _ => .of_eq rfl) (fun _ _ _ => .of_eq rfl) sup (by decide +kernel) tpa tC_BadStanding sa_BadStanding no_BadStanding hd_BadStanding (by decide) (by decide) (by decide) (by decide)) rfl kC_BadStanding ex_BadStanding ty_BadStanding
    e_BadFraction := errM_mk X G a_BadFraction (errC_mk PySem.F.excBase_ValueError PySem.F.store_ValueError kxs_ValueError i_BadFraction L_BadFraction qi_BadFraction qo_BadFraction sB_BadFraction su_BadFraction mr_BadFraction cl_BadFraction cd_BadFraction lc_BadFraction hv_BadFraction hf_BadFraction lcc_BadFraction hq_BadFraction (fun _ _ _ => .of_eq rfl) (fun _ _ _ => .of_eq rfl) sup (by decide +kernel) tpa tC_BadFraction sa_BadFraction no_BadFraction hd_BadFraction (by decide) (by decide) (by decide) (by decide)) rfl kC_BadFraction ex_BadFraction ty_BadFraction
    e_BadPaper := errM_mk X G a_BadPaper (errC_mk PySem.F.excBase_ValueError PySem.F.store_ValueError kxs_ValueError i_BadPaper L_BadPaper qi_BadPaper qo_BadPaper sB_BadPaper su_BadPaper mr_BadPaper cl_BadPaper cd_BadPaper lc_BadPaper hv_BadPaper hf_BadPaper lcc_BadPaper hq_BadPaper (fun _ _ _ => .of_eq rfl) (fun _ _ _ => .of_eq rfl) sup (by decide +kernel) tpa tC_BadPaper sa_BadPaper no_BadPaper hd_BadPaper (by decide) (by decide) (by decide) (by decide)) rfl kC_BadPaper ex_BadPaper ty_BadPaper
    e_BadText := errM_mk X G a_BadText (errC_mk PySem.F.excBase_ValueError PySem.F.store_ValueError kxs_ValueError i_BadText L_BadText qi_BadText qo_BadText sB_BadText su_BadText mr_BadText cl_BadText cd_BadText lc_BadText hv_BadText hf_BadText lcc_BadText hq_BadText (fun _ _ _ => .of_eq rfl) (fun _ _ _ => .of_eq rfl) sup (by decide +kernel) tpa tC_BadText sa_BadText no_BadText hd_BadText (by decide) (by decide) (by decide) (by decide)) rfl kC_BadText ex_BadText ty_BadText
    e_BadDeed := errM_mk X G a_BadDeed (errC_mk PySem.F.excBase_ValueError PySem.F.store_ValueError kxs_ValueError i_BadDeed L_BadDeed qi_BadDeed qo_BadDeed sB_BadDeed su_BadDeed mr_BadDeed cl_BadDeed cd_BadDeed lc_BadDeed hv_BadDeed hf_BadDeed lcc_BadDeed hq_BadDeed (fun _ _ _ => .of_eq rfl) (fun _ _ _ => .of_eq rfl) sup (by decide +kernel) tpa tC_BadDeed sa_BadDeed no_BadDeed hd_BadDeed (by decide) (by decide) (by decide) (by decide)) rfl kC_BadDeed ex_BadDeed ty_BadDeed
    e_BadMenu := errM_mk X G a_BadMenu (errC_mk PySem.F.excBase_ValueError PySem.F.store_ValueError kxs_ValueError i_BadMenu L_BadMenu qi_BadMenu qo_BadMenu sB_BadMenu su_BadMenu mr_BadMenu cl_BadMenu cd_BadMenu lc_BadMenu hv_BadMenu hf_BadMenu lcc_BadMenu hq_BadMenu (fun _ _ _ => .of_eq rfl) (fun _ _ _ => .of_eq rfl) sup (by decide +kernel) tpa tC_BadMenu sa_BadMenu no_BadMenu hd_BadMenu (by decide) (by decide) (by decide) (by decide)) rfl kC_BadMenu ex_BadMenu ty_BadMenu
    e_BadPaid := errM_mk X G a_BadPaid (errC_mk PySem.F.excBase_ValueError PySem.F.store_ValueError kxs_ValueError i_BadPaid L_BadPaid qi_BadPaid qo_BadPaid sB_BadPaid su_BadPaid mr_BadPaid cl_BadPaid cd_BadPaid lc_BadPaid hv_BadPaid hf_BadPaid lcc_BadPaid hq_BadPaid (fun _ _ _ => .of_eq rfl) (fun _ _ _ => .of_eq rfl) sup (by decide +kernel) tpa tC_BadPaid sa_BadPaid no_BadPaid hd_BadPaid (by decide) (by decide) (by decide) (by decide)) rfl kC_BadPaid ex_BadPaid ty_BadPaid
    e_BadWishes := errM_mk X G a_BadWishes (errC_mk PySem.F.excBase_ValueError PySem.F.store_ValueError kxs_ValueError i_BadWishes L_BadWishes qi_BadWishes qo_BadWishes sB_BadWishes su_BadWishes mr_BadWishes cl_BadWishes cd_BadWishes lc_BadWishes hv_BadWishes hf_BadWishes lcc_BadWishes hq_BadWishes (fun _ _ _ => .of_eq rfl) (fun _ _ _ => .of_eq rfl) sup (by decide +kernel) tpa tC_BadWishes sa_BadWishes no_BadWishes hd_BadWishes (by decide) (by decide) (by decide) (by decide)) rfl kC_BadWishes ex_BadWishes ty_BadWishes
    e_TooGreat := errM_mk X G a_TooGreat (errC_mk PySem.F.excBase_OverflowError PySem.F.store_OverflowError kxs_OverflowError i_TooGreat L_TooGreat qi_TooGreat qo_TooGreat sB_TooGreat su_TooGreat mr_TooGreat cl_TooGreat cd_TooGreat lc_TooGreat hv_TooGreat hf_TooGreat lcc_TooGreat hq_TooGreat (fun _ _ _ => .of_eq rfl) (fun _ _ _ => .of_eq rfl) sup (by decide +kernel) tpa tC_TooGreat sa_TooGreat no_TooGreat hd_TooGreat (by decide) (by decide) (by decide) (by decide)) rfl kC_TooGreat ex_TooGreat ty_TooGreat
    e_Nothing := errM_mk X G a_Nothing (errC_mk PySem.F.excBase_LookupError PySem.F.store_LookupError kxs_LookupError i_Nothing L_Nothing qi_Nothing qo_Nothing sB_Nothing su_Nothing mr_Nothing cl_Nothing cd_Nothing lc_Nothing hv_Nothing hf_Nothing lcc_Nothing hq_Nothing (fun _ _ _ => .of_eq rfl) (fun _ _ _ => .of_eq rfl) sup (by decide +kernel) tpa tC_Nothing sa_Nothing no_Nothing hd_Nothing (by decide) (by decide) (by decide) (by decide)) rfl kC_Nothing ex_Nothing ty_Nothing
    n_BadRule := isN_own X G a_BadRule (isT_cons t_BadRule_0 (isT_cons t_BadRule_1 (isT_cons t_BadRule_2 (isT_cons t_BadRule_3 (isT_cons t_BadRule_4 (isT_cons t_BadRule_5 (isT_cons t_BadRule_6 (isT_cons t_BadRule_7 (isT_cons t_BadRule_8 (isT_cons t_BadRule_9 (isT_cons t_BadRule_10 (isT_cons t_BadRule_11 (isT_cons t_BadRule_12 (isT_cons t_BadRule_13 (isT_cons t_BadRule_14 isT_nil)))))))))))))))
    n_BadPaper := isN_own X G a_BadPaper (isT_cons t_BadPaper_0 (isT_cons t_BadPaper_1 (isT_cons t_BadPaper_2 (isT_cons t_BadPaper_3 (isT_cons t_BadPaper_4 (isT_cons t_BadPaper_5 (isT_cons t_BadPaper_6 (isT_cons t_BadPaper_7 (isT_cons t_BadPaper_8 (isT_cons t_BadPaper_9 (isT_cons t_BadPaper_10 (isT_cons t_BadPaper_11 (isT_cons t_BadPaper_12 (isT_cons t_BadPaper_13 (isT_cons t_BadPaper_14 isT_nil)))))))))))))))
    n_BadKind := isN_own X G a_BadKind (isT_cons t_BadKind_0 (isT_cons t_BadKind_1 (isT_cons t_BadKind_2 (isT_cons t_BadKind_3 (isT_cons t_BadKind_4 (isT_cons t_BadKind_5 (isT_cons t_BadKind_6 (isT_cons t_BadKind_7 (isT_cons t_BadKind_8 (isT_cons t_BadKind_9 (isT_cons t_BadKind_10 (isT_cons t_BadKind_11 (isT_cons t_BadKind_12 (isT_cons t_BadKind_13 (isT_cons t_BadKind_14 isT_nil)))))))))))))))
    n_BadNumber := isN_own X G a_BadNumber (isT_cons t_BadNumber_0 (isT_cons t_BadNumber_1 (isT_cons t_BadNumber_2 (isT_cons t_BadNumber_3 (isT_cons t_BadNumber_4 (isT_cons t_BadNumber_5 (isT_cons t_BadNumber_6 (isT_cons t_BadNumber_7 (isT_cons t_BadNumber_8 (isT_cons t_BadNumber_9 (isT_cons t_BadNumber_10 (isT_cons t_BadNumber_11 (isT_cons t_BadNumber_12 (isT_cons t_BadNumber_13 (isT_cons t_BadNumber_14 isT_nil)))))))))))))))
    n_BadStanding := isN_own X G a_BadStanding (isT_cons t_BadStanding_0 (isT_cons t_BadStanding_1 (isT_cons t_BadStanding_2 (isT_cons t_BadStanding_3 (isT_cons t_BadStanding_4 (isT_cons t_BadStanding_5 (isT_cons t_BadStanding_6 (isT_cons t_BadStanding_7 (isT_cons t_BadStanding_8 (isT_cons t_BadStanding_9 (isT_cons t_BadStanding_10 (isT_cons t_BadStanding_11 (isT_cons t_BadStanding_12 (isT_cons t_BadStanding_13 (isT_cons t_BadStanding_14 isT_nil)))))))))))))))
    n_BadFraction := isN_own X G a_BadFraction (isT_cons t_BadFraction_0 (isT_cons t_BadFraction_1 (isT_cons t_BadFraction_2 (isT_cons t_BadFraction_3 (isT_cons t_BadFraction_4 (isT_cons t_BadFraction_5 (isT_cons t_BadFraction_6 (isT_cons t_BadFraction_7 (isT_cons t_BadFraction_8 (isT_cons t_BadFraction_9 (isT_cons t_BadFraction_10 (isT_cons t_BadFraction_11 (isT_cons t_BadFraction_12 (isT_cons t_BadFraction_13 (isT_cons t_BadFraction_14 isT_nil)))))))))))))))
    n_BadDeed := isN_own X G a_BadDeed (isT_cons t_BadDeed_0 (isT_cons t_BadDeed_1 (isT_cons t_BadDeed_2 (isT_cons t_BadDeed_3 (isT_cons t_BadDeed_4 (isT_cons t_BadDeed_5 (isT_cons t_BadDeed_6 (isT_cons t_BadDeed_7 (isT_cons t_BadDeed_8 (isT_cons t_BadDeed_9 (isT_cons t_BadDeed_10 (isT_cons t_BadDeed_11 (isT_cons t_BadDeed_12 (isT_cons t_BadDeed_13 (isT_cons t_BadDeed_14 isT_nil)))))))))))))))
    n_BadWishes := isN_own X G a_BadWishes (isT_cons t_BadWishes_0 (isT_cons t_BadWishes_1 (isT_cons t_BadWishes_2 (isT_cons t_BadWishes_3 (isT_cons t_BadWishes_4 (isT_cons t_BadWishes_5 (isT_cons t_BadWishes_6 (isT_cons t_BadWishes_7 (isT_cons t_BadWishes_8 (isT_cons t_BadWishes_9 (isT_cons t_BadWishes_10 (isT_cons t_BadWishes_11 (isT_cons t_BadWishes_12 (isT_cons t_BadWishes_13 (isT_cons t_BadWishes_14 isT_nil)))))))))))))))
    n_Nothing := isN_own X G a_Nothing (isT_cons t_Nothing_0 (isT_cons t_Nothing_1 (isT_cons t_Nothing_2 (isT_cons t_Nothing_3 (isT_cons t_Nothing_4 (isT_cons t_Nothing_5 (isT_cons t_Nothing_6 (isT_cons t_Nothing_7 (isT_cons t_Nothing_8 (isT_cons t_Nothing_9 (isT_cons t_Nothing_10 (isT_cons t_Nothing_11 (isT_cons t_Nothing_12 (isT_cons t_Nothing_13 (isT_cons t_Nothing_14 isT_nil)))))))))))))))
    n_BadJourney := isN_own X G a_BadJourney (isT_cons t_BadJourney_0 (isT_cons t_BadJourney_1 (isT_cons t_BadJourney_2 (isT_cons t_BadJourney_3 (isT_cons t_BadJourney_4 (isT_cons t_BadJourney_5 (isT_cons t_BadJourney_6 (isT_cons t_BadJourney_7 (isT_cons t_BadJourney_8 (isT_cons t_BadJourney_9 (isT_cons t_BadJourney_10 (isT_cons t_BadJourney_11 (isT_cons t_BadJourney_12 (isT_cons t_BadJourney_13 (isT_cons t_BadJourney_14 isT_nil)))))))))))))))
    n_BadMenu := isN_own X G a_BadMenu (isT_cons t_BadMenu_0 (isT_cons t_BadMenu_1 (isT_cons t_BadMenu_2 (isT_cons t_BadMenu_3 (isT_cons t_BadMenu_4 (isT_cons t_BadMenu_5 (isT_cons t_BadMenu_6 (isT_cons t_BadMenu_7 (isT_cons t_BadMenu_8 (isT_cons t_BadMenu_9 (isT_cons t_BadMenu_10 (isT_cons t_BadMenu_11 (isT_cons t_BadMenu_12 (isT_cons t_BadMenu_13 (isT_cons t_BadMenu_14 isT_nil)))))))))))))))
    n_BadPaid := isN_own X G a_BadPaid (isT_cons t_BadPaid_0 (isT_cons t_BadPaid_1 (isT_cons t_BadPaid_2 (isT_cons t_BadPaid_3 (isT_cons t_BadPaid_4 (isT_cons t_BadPaid_5 (isT_cons t_BadPaid_6 (isT_cons t_BadPaid_7 (isT_cons t_BadPaid_8 (isT_cons t_BadPaid_9 (isT_cons t_BadPaid_10 (isT_cons t_BadPaid_11 (isT_cons t_BadPaid_12 (isT_cons t_BadPaid_13 (isT_cons t_BadPaid_14 isT_nil)))))))))))))))
    n_BadText := isN_own X G a_BadText (isT_cons t_BadText_0 (isT_cons t_BadText_1 (isT_cons t_BadText_2 (isT_cons t_BadText_3 (isT_cons t_BadText_4 (isT_cons t_BadText_5 (isT_cons t_BadText_6 (isT_cons t_BadText_7 (isT_cons t_BadText_8 (isT_cons t_BadText_9 (isT_cons t_BadText_10 (isT_cons t_BadText_11 (isT_cons t_BadText_12 (isT_cons t_BadText_13 (isT_cons t_BadText_14 isT_nil)))))))))))))))
    n_TooGreat := isN_own X G a_TooGreat (isT_cons t_TooGreat_0 (isT_cons t_TooGreat_1 (isT_cons t_TooGreat_2 (isT_cons t_TooGreat_3 (isT_cons t_TooGreat_4 (isT_cons t_TooGreat_5 (isT_cons t_TooGreat_6 (isT_cons t_TooGreat_7 (isT_cons t_TooGreat_8 (isT_cons t_TooGreat_9 (isT_cons t_TooGreat_10 (isT_cons t_TooGreat_11 (isT_cons t_TooGreat_12 (isT_cons t_TooGreat_13 (isT_cons t_TooGreat_14 isT_nil)))))))))))))))
    n_ShareError := isN_own X G a_ShareError (isT_cons t_ShareError_0 (isT_cons t_ShareError_1 (isT_cons t_ShareError_2 (isT_cons t_ShareError_3 (isT_cons t_ShareError_4 (isT_cons t_ShareError_5 (isT_cons t_ShareError_6 (isT_cons t_ShareError_7 (isT_cons t_ShareError_8 (isT_cons t_ShareError_9 (isT_cons t_ShareError_10 (isT_cons t_ShareError_11 (isT_cons t_ShareError_12 (isT_cons t_ShareError_13 (isT_cons t_ShareError_14 isT_nil)))))))))))))))
    n_ValueError := isN_ty X G z_ValueError (by decide +kernel) (isT_cons t_ValueError_0 (isT_cons t_ValueError_1 (isT_cons t_ValueError_2 (isT_cons t_ValueError_3 (isT_cons t_ValueError_4 (isT_cons t_ValueError_5 (isT_cons t_ValueError_6 (isT_cons t_ValueError_7 (isT_cons t_ValueError_8 (isT_cons t_ValueError_9 (isT_cons t_ValueError_10 (isT_cons t_ValueError_11 (isT_cons t_ValueError_12 (isT_cons t_ValueError_13 (isT_cons t_ValueError_14 isT_nil)))))))))))))))
    n_LookupError := isN_ty X G z_LookupError (by decide +kernel) (isT_cons t_LookupError_0 (isT_cons t_LookupError_1 (isT_cons t_LookupError_2 (isT_cons t_LookupError_3 (isT_cons t_LookupError_4 (isT_cons t_LookupError_5 (isT_cons t_LookupError_6 (isT_cons t_LookupError_7 (isT_cons t_LookupError_8 (isT_cons t_LookupError_9 (isT_cons t_LookupError_10 (isT_cons t_LookupError_11 (isT_cons t_LookupError_12 (isT_cons t_LookupError_13 (isT_cons t_LookupError_14 isT_nil)))))))))))))))
    n_OverflowError := isN_ty X G z_OverflowError (by decide +kernel) (isT_cons t_OverflowError_0 (isT_cons t_OverflowError_1 (isT_cons t_OverflowError_2 (isT_cons t_OverflowError_3 (isT_cons t_OverflowError_4 (isT_cons t_OverflowError_5 (isT_cons t_OverflowError_6 (isT_cons t_OverflowError_7 (isT_cons t_OverflowError_8 (isT_cons t_OverflowError_9 (isT_cons t_OverflowError_10 (isT_cons t_OverflowError_11 (isT_cons t_OverflowError_12 (isT_cons t_OverflowError_13 (isT_cons t_OverflowError_14 isT_nil)))))))))))))))
    n_TypeError := isN_ty X G z_TypeError (by decide +kernel) (isT_cons t_TypeError_0 (isT_cons t_TypeError_1 (isT_cons t_TypeError_2 (isT_cons t_TypeError_3 (isT_cons t_TypeError_4 (isT_cons t_TypeError_5 (isT_cons t_TypeError_6 (isT_cons t_TypeError_7 (isT_cons t_TypeError_8 (isT_cons t_TypeError_9 (isT_cons t_TypeError_10 (isT_cons t_TypeError_11 (isT_cons t_TypeError_12 (isT_cons t_TypeError_13 (isT_cons t_TypeError_14 isT_nil)))))))))))))))
    h_ShareError := ⟨_, (.cons (nmc_own X G a_ShareError) .nil), (tb_cons (exm_cons ex_ShareError hd_ShareError ty_ShareError s_ShareError_0 exm_nil rfl) (tb_cons (exm_cons ex_ShareError hd_ShareError ty_ShareError s_ShareError_1 exm_nil rfl) (tb_cons (exm_cons ex_ShareError hd_ShareError ty_ShareError s_ShareError_2 exm_nil rfl) (tb_cons (exm_cons ex_ShareError hd_ShareError ty_ShareError s_ShareError_3 exm_nil rfl) (tb_cons (exm_cons ex_ShareError hd_ShareError ty_ShareError s_ShareError_4 exm_nil rfl) (tb_cons (exm_cons ex_ShareError hd_ShareError ty_ShareError s_ShareError_5 exm_nil rfl) (tb_cons (exm_cons ex_ShareError hd_ShareError ty_ShareError s_ShareError_6 exm_nil rfl) (tb_cons (exm_cons ex_ShareError hd_ShareError ty_ShareError s_ShareError_7 exm_nil rfl) (tb_cons (exm_cons ex_ShareError hd_ShareError ty_ShareError s_ShareError_8 exm_nil rfl) (tb_cons (exm_cons ex_ShareError hd_ShareError ty_ShareError s_ShareError_9 exm_nil rfl) (tb_cons (exm_cons ex_ShareError hd_ShareError ty_ShareError s_ShareError_10 exm_nil rfl) (tb_cons (exm_cons ex_ShareError hd_ShareError ty_ShareError s_ShareError_11 exm_nil rfl) (tb_cons (exm_cons ex_ShareError hd_ShareError ty_ShareError s_ShareError_12 exm_nil rfl) (tb_cons (exm_cons ex_ShareError hd_ShareError ty_ShareError s_ShareError_13 exm_nil rfl) (tb_cons (exm_cons ex_ShareError hd_ShareError ty_ShareError s_ShareError_14 exm_nil rfl) tb_nil)))))))))))))))⟩
    u_line := by
      intro c hc
      simp only [List.mem_cons, List.not_mem_nil, or_false] at hc
      subst hc
      exact ⟨_, rfl⟩
    u_most := by
      intro c hc
      simp only [List.mem_cons, List.not_mem_nil, or_false] at hc
      subst hc
      exact ⟨_, rfl⟩
    u_number := by
      intro c hc
      simp only [List.mem_cons, List.not_mem_nil, or_false] at hc
      rcases hc with rfl | rfl | rfl
      · exact ⟨_, rfl⟩
      · exact ⟨_, rfl⟩
      · exact ⟨_, rfl⟩
    u_part := by
      intro c hc
      simp only [List.mem_cons, List.not_mem_nil, or_false] at hc
      rcases hc with rfl | rfl
      · exact ⟨_, rfl⟩
      · exact ⟨_, rfl⟩
    u_value := by
      intro c hc
      simp only [List.mem_cons, List.not_mem_nil, or_false] at hc
      rcases hc with rfl | rfl | rfl | rfl | rfl | rfl | rfl
      · exact ⟨_, rfl⟩
      · exact ⟨_, rfl⟩
      · exact ⟨_, rfl⟩
      · exact ⟨_, rfl⟩
      · exact ⟨_, rfl⟩
      · exact ⟨_, rfl⟩
      · exact ⟨_, rfl⟩
    eci := (eci_cons ⟨cl_ShareError, ga_ShareError, gg_ShareError, ex_ShareError, ca_ShareError, cn, ctk, cm_ShareError, no_ShareError, hd_ShareError, ty_ShareError⟩ (eci_cons ⟨cl_BadRule, ga_BadRule, gg_BadRule, ex_BadRule, ca_BadRule, cn, ctk, cm_BadRule, no_BadRule, hd_BadRule, ty_BadRule⟩ (eci_cons ⟨cl_BadJourney, ga_BadJourney, gg_BadJourney, ex_BadJourney, ca_BadJourney, cn, ctk, cm_BadJourney, no_BadJourney, hd_BadJourney, ty_BadJourney⟩ (eci_cons ⟨cl_BadKind, ga_BadKind, gg_BadKind, ex_BadKind, ca_BadKind, cn, ctk, cm_BadKind, no_BadKind, hd_BadKind, ty_BadKind⟩ (eci_cons ⟨cl_BadNumber, ga_BadNumber, gg_BadNumber, ex_BadNumber, ca_BadNumber, cn, ctk, cm_BadNumber, no_BadNumber, hd_BadNumber, ty_BadNumber⟩ (eci_cons ⟨cl_BadStanding, ga_BadStanding, gg_BadStanding, ex_BadStanding, ca_BadStanding, cn, ctk, cm_BadStanding, no_BadStanding, hd_BadStanding, ty_BadStanding⟩ (eci_cons ⟨cl_BadFraction, ga_BadFraction, gg_BadFraction, ex_BadFraction, ca_BadFraction, cn, ctk, cm_BadFraction, no_BadFraction, hd_BadFraction, ty_BadFraction⟩ (eci_cons ⟨cl_BadPaper, ga_BadPaper, gg_BadPaper, ex_BadPaper, ca_BadPaper, cn, ctk, cm_BadPaper, no_BadPaper, hd_BadPaper, ty_BadPaper⟩ (eci_cons ⟨cl_BadText, ga_BadText, gg_BadText, ex_BadText, ca_BadText, cn, ctk, cm_BadText, no_BadText, hd_BadText, ty_BadText⟩ (eci_cons ⟨cl_BadDeed, ga_BadDeed, gg_BadDeed, ex_BadDeed, ca_BadDeed, cn, ctk, cm_BadDeed, no_BadDeed, hd_BadDeed, ty_BadDeed⟩ (eci_cons ⟨cl_BadMenu, ga_BadMenu, gg_BadMenu, ex_BadMenu, ca_BadMenu, cn, ctk, cm_BadMenu, no_BadMenu, hd_BadMenu, ty_BadMenu⟩ (eci_cons ⟨cl_BadPaid, ga_BadPaid, gg_BadPaid, ex_BadPaid, ca_BadPaid, cn, ctk, cm_BadPaid, no_BadPaid, hd_BadPaid, ty_BadPaid⟩ (eci_cons ⟨cl_BadWishes, ga_BadWishes, gg_BadWishes, ex_BadWishes, ca_BadWishes, cn, ctk, cm_BadWishes, no_BadWishes, hd_BadWishes, ty_BadWishes⟩ (eci_cons ⟨cl_TooGreat, ga_TooGreat, gg_TooGreat, ex_TooGreat, ca_TooGreat, cn, ctk, cm_TooGreat, no_TooGreat, hd_TooGreat, ty_TooGreat⟩ (eci_cons ⟨cl_Nothing, ga_Nothing, gg_Nothing, ex_Nothing, ca_Nothing, cn, ctk, cm_Nothing, no_Nothing, hd_Nothing, ty_Nothing⟩ eci_nil))))))))))))))) }
  exact ⟨_, _, fun s u => .of_eq rfl, fun base _ _ SB => fnG_law T SB (fun_mk (st := s_law) l_law c_law k_law)⟩

end
end Pl.Law
open PySem PySem.W PyProof.Rows in
set_option maxRecDepth 100000 in
set_option maxHeartbeats 0 in
theorem PySem.Challenge.cw_touchshare_k01_errors_holds : PySem.Challenge.rw_touchshare_k01_errors.Holds := by
  w_on; o_law; k_head; (case hw => w_witness2)
  k_fill
  refine Pl.walk_law (l := PySem.Challenge.rw_touchshare_k01_errors) (k := 5) (x := "script") (fm := Pl.Law.f_law) rfl (by decide +kernel) rfl (by decide +kernel) ⟨rfl, by decide, by decide⟩ (fun w h Y => PySem.W.kIn_of Y) ?F Pl.Law.law_true
  case F =>
    intro w mg fa h KX G hmg
    refine' Pl.Law.all_mk KX G hmg ?a_BadRule ?a_BadPaper ?a_BadKind ?a_BadNumber ?a_BadStanding ?a_BadFraction ?a_BadDeed ?a_BadWishes ?a_Nothing ?a_BadJourney ?a_BadMenu ?a_BadPaid ?a_BadText ?a_TooGreat ?a_ShareError ?a__law_begun ?l__law_begun ?c__law_begun ?k__law_begun ?a__law_draw ?l__law_draw ?c__law_draw ?k__law_draw ?a__law_of ?l__law_of ?c__law_of ?k__law_of ?a__law_pairs ?l__law_pairs ?c__law_pairs ?k__law_pairs ?a__law_marks ?l__law_marks ?c__law_marks ?k__law_marks ?a__law_above ?l__law_above ?c__law_above ?k__law_above ?a__law_field ?l__law_field ?c__law_field ?k__law_field ?a__law_right ?l__law_right ?c__law_right ?k__law_right ?a_law ?l_law ?c_law ?k_law ?b_enumerate ?b_int ?b_isinstance ?b_len ?b_list ?b_min ?b_range ?b_repr ?sup ?tpa ?cn ?ctk ?xi_ShareError ?cl_ShareError ?no_ShareError ?hd_ShareError ?kC_ShareError ?ex_ShareError ?ty_ShareError ?ga_ShareError ?gg_ShareError ?ca_ShareError ?cm_ShareError ?i_BadRule ?L_BadRule ?qi_BadRule ?qo_BadRule ?sB_BadRule ?su_BadRule ?mr_BadRule ?cl_BadRule ?cd_BadRule ?lc_BadRule ?hv_BadRule ?hf_BadRule ?lcc_BadRule ?hq_BadRule ?tC_BadRule ?sa_BadRule ?no_BadRule ?hd_BadRule ?kC_BadRule ?ex_BadRule ?ty_BadRule ?ga_BadRule ?gg_BadRule ?ca_BadRule ?cm_BadRule ?i_BadJourney ?L_BadJourney ?qi_BadJourney ?qo_BadJourney ?sB_BadJourney ?su_BadJourney ?mr_BadJourney ?cl_BadJourney ?cd_BadJourney ?lc_BadJourney ?hv_BadJourney ?hf_BadJourney ?lcc_BadJourney ?hq_BadJourney ?tC_BadJourney ?sa_BadJourney ?no_BadJourney ?hd_BadJourney ?kC_BadJourney ?ex_BadJourney ?ty_BadJourney ?ga_BadJourney ?gg_BadJourney ?ca_BadJourney ?cm_BadJourney ?i_BadKind ?L_BadKind ?qi_BadKind ?qo_BadKind ?sB_BadKind ?su_BadKind ?mr_BadKind ?cl_BadKind ?cd_BadKind ?lc_BadKind ?hv_BadKind ?hf_BadKind ?lcc_BadKind ?hq_BadKind ?tC_BadKind ?sa_BadKind ?no_BadKind ?hd_BadKind ?kC_BadKind ?ex_BadKind ?ty_BadKind ?ga_BadKind ?gg_BadKind ?ca_BadKind ?cm_BadKind ?i_BadNumber ?L_BadNumber ?qi_BadNumber ?qo_BadNumber ?sB_BadNumber ?su_BadNumber ?mr_BadNumber ?cl_BadNumber ?cd_BadNumber ?lc_BadNumber ?hv_BadNumber ?hf_BadNumber ?lcc_BadNumber ?hq_BadNumber ?tC_BadNumber ?sa_BadNumber ?no_BadNumber ?hd_BadNumber ?kC_BadNumber ?ex_BadNumber ?ty_BadNumber ?ga_BadNumber ?gg_BadNumber ?ca_BadNumber ?cm_BadNumber ?i_BadStanding ?L_BadStanding ?qi_BadStanding ?qo_BadStanding ?sB_BadStanding ?su_BadStanding ?mr_BadStanding ?cl_BadStanding ?cd_BadStanding ?lc_BadStanding ?hv_BadStanding ?hf_BadStanding ?lcc_BadStanding ?hq_BadStanding ?tC_BadStanding ?sa_BadStanding ?no_BadStanding ?hd_BadStanding ?kC_BadStanding ?ex_BadStanding ?ty_BadStanding ?ga_BadStanding ?gg_BadStanding ?ca_BadStanding ?cm_BadStanding ?i_BadFraction ?L_BadFraction ?qi_BadFraction ?qo_BadFraction ?sB_BadFraction ?su_BadFraction ?mr_BadFraction ?cl_BadFraction ?cd_BadFraction ?lc_BadFraction ?hv_BadFraction ?hf_BadFraction ?lcc_BadFraction ?hq_BadFraction ?tC_BadFraction ?sa_BadFraction ?no_BadFraction ?hd_BadFraction ?kC_BadFraction ?ex_BadFraction ?ty_BadFraction ?ga_BadFraction ?gg_BadFraction ?ca_BadFraction ?cm_BadFraction ?i_BadPaper ?L_BadPaper ?qi_BadPaper ?qo_BadPaper ?sB_BadPaper ?su_BadPaper ?mr_BadPaper ?cl_BadPaper ?cd_BadPaper ?lc_BadPaper ?hv_BadPaper ?hf_BadPaper ?lcc_BadPaper ?hq_BadPaper ?tC_BadPaper ?sa_BadPaper ?no_BadPaper ?hd_BadPaper ?kC_BadPaper ?ex_BadPaper ?ty_BadPaper ?ga_BadPaper ?gg_BadPaper ?ca_BadPaper ?cm_BadPaper ?i_BadText ?L_BadText ?qi_BadText ?qo_BadText ?sB_BadText ?su_BadText ?mr_BadText ?cl_BadText ?cd_BadText ?lc_BadText ?hv_BadText ?hf_BadText ?lcc_BadText ?hq_BadText ?tC_BadText ?sa_BadText ?no_BadText ?hd_BadText ?kC_BadText ?ex_BadText ?ty_BadText ?ga_BadText ?gg_BadText ?ca_BadText ?cm_BadText ?i_BadDeed ?L_BadDeed ?qi_BadDeed ?qo_BadDeed ?sB_BadDeed ?su_BadDeed ?mr_BadDeed ?cl_BadDeed ?cd_BadDeed ?lc_BadDeed ?hv_BadDeed ?hf_BadDeed ?lcc_BadDeed ?hq_BadDeed ?tC_BadDeed ?sa_BadDeed ?no_BadDeed ?hd_BadDeed ?kC_BadDeed ?ex_BadDeed ?ty_BadDeed ?ga_BadDeed ?gg_BadDeed ?ca_BadDeed ?cm_BadDeed ?i_BadMenu ?L_BadMenu ?qi_BadMenu ?qo_BadMenu ?sB_BadMenu ?su_BadMenu ?mr_BadMenu ?cl_BadMenu ?cd_BadMenu ?lc_BadMenu ?hv_BadMenu ?hf_BadMenu ?lcc_BadMenu ?hq_BadMenu ?tC_BadMenu ?sa_BadMenu ?no_BadMenu ?hd_BadMenu ?kC_BadMenu ?ex_BadMenu ?ty_BadMenu ?ga_BadMenu ?gg_BadMenu ?ca_BadMenu ?cm_BadMenu ?i_BadPaid ?L_BadPaid ?qi_BadPaid ?qo_BadPaid ?sB_BadPaid ?su_BadPaid ?mr_BadPaid ?cl_BadPaid ?cd_BadPaid ?lc_BadPaid ?hv_BadPaid ?hf_BadPaid ?lcc_BadPaid ?hq_BadPaid ?tC_BadPaid ?sa_BadPaid ?no_BadPaid ?hd_BadPaid ?kC_BadPaid ?ex_BadPaid ?ty_BadPaid ?ga_BadPaid ?gg_BadPaid ?ca_BadPaid ?cm_BadPaid ?i_BadWishes ?L_BadWishes ?qi_BadWishes ?qo_BadWishes ?sB_BadWishes ?su_BadWishes ?mr_BadWishes ?cl_BadWishes ?cd_BadWishes ?lc_BadWishes ?hv_BadWishes ?hf_BadWishes ?lcc_BadWishes ?hq_BadWishes ?tC_BadWishes ?sa_BadWishes ?no_BadWishes ?hd_BadWishes ?kC_BadWishes ?ex_BadWishes ?ty_BadWishes ?ga_BadWishes ?gg_BadWishes ?ca_BadWishes ?cm_BadWishes ?i_TooGreat ?L_TooGreat ?qi_TooGreat ?qo_TooGreat ?sB_TooGreat ?su_TooGreat ?mr_TooGreat ?cl_TooGreat ?cd_TooGreat ?lc_TooGreat ?hv_TooGreat ?hf_TooGreat ?lcc_TooGreat ?hq_TooGreat ?tC_TooGreat ?sa_TooGreat ?no_TooGreat ?hd_TooGreat ?kC_TooGreat ?ex_TooGreat ?ty_TooGreat ?ga_TooGreat ?gg_TooGreat ?ca_TooGreat ?cm_TooGreat ?i_Nothing ?L_Nothing ?qi_Nothing ?qo_Nothing ?sB_Nothing ?su_Nothing ?mr_Nothing ?cl_Nothing ?cd_Nothing ?lc_Nothing ?hv_Nothing ?hf_Nothing ?lcc_Nothing ?hq_Nothing ?tC_Nothing ?sa_Nothing ?no_Nothing ?hd_Nothing ?kC_Nothing ?ex_Nothing ?ty_Nothing ?ga_Nothing ?gg_Nothing ?ca_Nothing ?cm_Nothing ?t_BadRule_14 ?t_BadRule_13 ?t_BadRule_12 ?t_BadRule_11 ?t_BadRule_10 ?t_BadRule_9 ?t_BadRule_8 ?t_BadRule_7 ?t_BadRule_6 ?t_BadRule_5 ?t_BadRule_4 ?t_BadRule_3 ?t_BadRule_2 ?t_BadRule_1 ?t_BadRule_0 ?t_BadPaper_14 ?t_BadPaper_13 ?t_BadPaper_12 ?t_BadPaper_11 ?t_BadPaper_10 ?t_BadPaper_9 ?t_BadPaper_8 ?t_BadPaper_7 ?t_BadPaper_6 ?t_BadPaper_5 ?t_BadPaper_4 ?t_BadPaper_3 ?t_BadPaper_2 ?t_BadPaper_1 ?t_BadPaper_0 ?t_BadKind_14 ?t_BadKind_13 ?t_BadKind_12 ?t_BadKind_11 ?t_BadKind_10 ?t_BadKind_9 ?t_BadKind_8 ?t_BadKind_7 ?t_BadKind_6 ?t_BadKind_5 ?t_BadKind_4 ?t_BadKind_3 ?t_BadKind_2 ?t_BadKind_1 ?t_BadKind_0 ?t_BadNumber_14 ?t_BadNumber_13 ?t_BadNumber_12 ?t_BadNumber_11 ?t_BadNumber_10 ?t_BadNumber_9 ?t_BadNumber_8 ?t_BadNumber_7 ?t_BadNumber_6 ?t_BadNumber_5 ?t_BadNumber_4 ?t_BadNumber_3 ?t_BadNumber_2 ?t_BadNumber_1 ?t_BadNumber_0 ?t_BadStanding_14 ?t_BadStanding_13 ?t_BadStanding_12 ?t_BadStanding_11 ?t_BadStanding_10 ?t_BadStanding_9 ?t_BadStanding_8 ?t_BadStanding_7 ?t_BadStanding_6 ?t_BadStanding_5 ?t_BadStanding_4 ?t_BadStanding_3 ?t_BadStanding_2 ?t_BadStanding_1 ?t_BadStanding_0 ?t_BadFraction_14 ?t_BadFraction_13 ?t_BadFraction_12 ?t_BadFraction_11 ?t_BadFraction_10 ?t_BadFraction_9 ?t_BadFraction_8 ?t_BadFraction_7 ?t_BadFraction_6 ?t_BadFraction_5 ?t_BadFraction_4 ?t_BadFraction_3 ?t_BadFraction_2 ?t_BadFraction_1 ?t_BadFraction_0 ?t_BadDeed_14 ?t_BadDeed_13 ?t_BadDeed_12 ?t_BadDeed_11 ?t_BadDeed_10 ?t_BadDeed_9 ?t_BadDeed_8 ?t_BadDeed_7 ?t_BadDeed_6 ?t_BadDeed_5 ?t_BadDeed_4 ?t_BadDeed_3 ?t_BadDeed_2 ?t_BadDeed_1 ?t_BadDeed_0 ?t_BadWishes_14 ?t_BadWishes_13 ?t_BadWishes_12 ?t_BadWishes_11 ?t_BadWishes_10 ?t_BadWishes_9 ?t_BadWishes_8 ?t_BadWishes_7 ?t_BadWishes_6 ?t_BadWishes_5 ?t_BadWishes_4 ?t_BadWishes_3 ?t_BadWishes_2 ?t_BadWishes_1 ?t_BadWishes_0 ?t_Nothing_14 ?t_Nothing_13 ?t_Nothing_12 ?t_Nothing_11 ?t_Nothing_10 ?t_Nothing_9 ?t_Nothing_8 ?t_Nothing_7 ?t_Nothing_6 ?t_Nothing_5 ?t_Nothing_4 ?t_Nothing_3 ?t_Nothing_2 ?t_Nothing_1 ?t_Nothing_0 ?t_BadJourney_14 ?t_BadJourney_13 ?t_BadJourney_12 ?t_BadJourney_11 ?t_BadJourney_10 ?t_BadJourney_9 ?t_BadJourney_8 ?t_BadJourney_7 ?t_BadJourney_6 ?t_BadJourney_5 ?t_BadJourney_4 ?t_BadJourney_3 ?t_BadJourney_2 ?t_BadJourney_1 ?t_BadJourney_0 ?t_BadMenu_14 ?t_BadMenu_13 ?t_BadMenu_12 ?t_BadMenu_11 ?t_BadMenu_10 ?t_BadMenu_9 ?t_BadMenu_8 ?t_BadMenu_7 ?t_BadMenu_6 ?t_BadMenu_5 ?t_BadMenu_4 ?t_BadMenu_3 ?t_BadMenu_2 ?t_BadMenu_1 ?t_BadMenu_0 ?t_BadPaid_14 ?t_BadPaid_13 ?t_BadPaid_12 ?t_BadPaid_11 ?t_BadPaid_10 ?t_BadPaid_9 ?t_BadPaid_8 ?t_BadPaid_7 ?t_BadPaid_6 ?t_BadPaid_5 ?t_BadPaid_4 ?t_BadPaid_3 ?t_BadPaid_2 ?t_BadPaid_1 ?t_BadPaid_0 ?t_BadText_14 ?t_BadText_13 ?t_BadText_12 ?t_BadText_11 ?t_BadText_10 ?t_BadText_9 ?t_BadText_8 ?t_BadText_7 ?t_BadText_6 ?t_BadText_5 ?t_BadText_4 ?t_BadText_3 ?t_BadText_2 ?t_BadText_1 ?t_BadText_0 ?t_TooGreat_14 ?t_TooGreat_13 ?t_TooGreat_12 ?t_TooGreat_11 ?t_TooGreat_10 ?t_TooGreat_9 ?t_TooGreat_8 ?t_TooGreat_7 ?t_TooGreat_6 ?t_TooGreat_5 ?t_TooGreat_4 ?t_TooGreat_3 ?t_TooGreat_2 ?t_TooGreat_1 ?t_TooGreat_0 ?t_ShareError_14 ?t_ShareError_13 ?t_ShareError_12 ?t_ShareError_11 ?t_ShareError_10 ?t_ShareError_9 ?t_ShareError_8 ?t_ShareError_7 ?t_ShareError_6 ?t_ShareError_5 ?t_ShareError_4 ?t_ShareError_3 ?t_ShareError_2 ?t_ShareError_1 ?t_ShareError_0 ?t_ValueError_14 ?t_ValueError_13 ?t_ValueError_12 ?t_ValueError_11 ?t_ValueError_10 ?t_ValueError_9 ?t_ValueError_8 ?t_ValueError_7 ?t_ValueError_6 ?t_ValueError_5 ?t_ValueError_4 ?t_ValueError_3 ?t_ValueError_2 ?t_ValueError_1 ?t_ValueError_0 ?z_ValueError ?t_LookupError_14 ?t_LookupError_13 ?t_LookupError_12 ?t_LookupError_11 ?t_LookupError_10 ?t_LookupError_9 ?t_LookupError_8 ?t_LookupError_7 ?t_LookupError_6 ?t_LookupError_5 ?t_LookupError_4 ?t_LookupError_3 ?t_LookupError_2 ?t_LookupError_1 ?t_LookupError_0 ?z_LookupError ?t_OverflowError_14 ?t_OverflowError_13 ?t_OverflowError_12 ?t_OverflowError_11 ?t_OverflowError_10 ?t_OverflowError_9 ?t_OverflowError_8 ?t_OverflowError_7 ?t_OverflowError_6 ?t_OverflowError_5 ?t_OverflowError_4 ?t_OverflowError_3 ?t_OverflowError_2 ?t_OverflowError_1 ?t_OverflowError_0 ?z_OverflowError ?t_TypeError_14 ?t_TypeError_13 ?t_TypeError_12 ?t_TypeError_11 ?t_TypeError_10 ?t_TypeError_9 ?t_TypeError_8 ?t_TypeError_7 ?t_TypeError_6 ?t_TypeError_5 ?t_TypeError_4 ?t_TypeError_3 ?t_TypeError_2 ?t_TypeError_1 ?t_TypeError_0 ?z_TypeError ?s_ShareError_0 ?s_ShareError_1 ?s_ShareError_2 ?s_ShareError_3 ?s_ShareError_4 ?s_ShareError_5 ?s_ShareError_6 ?s_ShareError_7 ?s_ShareError_8 ?s_ShareError_9 ?s_ShareError_10 ?s_ShareError_11 ?s_ShareError_12 ?s_ShareError_13 ?s_ShareError_14
    (case a_BadRule => k_is)
    (case a_BadPaper => k_is)
    (case a_BadKind => k_is)
    (case a_BadNumber => k_is)
    (case a_BadStanding => k_is)
    (case a_BadFraction => k_is)
    (case a_BadDeed => k_is)
    (case a_BadWishes => k_is)
    (case a_Nothing => k_is)
    (case a_BadJourney => k_is)
    (case a_BadMenu => k_is)
    (case a_BadPaid => k_is)
    (case a_BadText => k_is)
    (case a_TooGreat => k_is)
    (case a_ShareError => k_is)
    (case a__law_begun => k_is)
    (case l__law_begun => k_is)
    (case c__law_begun => k_is)
    (case k__law_begun => k_is)
    (case a__law_draw => k_is)
    (case l__law_draw => k_is)
    (case c__law_draw => k_is)
    (case k__law_draw => k_is)
    (case a__law_of => k_is)
    (case l__law_of => k_is)
    (case c__law_of => k_is)
    (case k__law_of => k_is)
    (case a__law_pairs => k_is)
    (case l__law_pairs => k_is)
    (case c__law_pairs => k_is)
    (case k__law_pairs => k_is)
    (case a__law_marks => k_is)
    (case l__law_marks => k_is)
    (case c__law_marks => k_is)
    (case k__law_marks => k_is)
    (case a__law_above => k_is)
    (case l__law_above => k_is)
    (case c__law_above => k_is)
    (case k__law_above => k_is)
    (case a__law_field => k_is)
    (case l__law_field => k_is)
    (case c__law_field => k_is)
    (case k__law_field => k_is)
    (case a__law_right => k_is)
    (case l__law_right => k_is)
    (case c__law_right => k_is)
    (case k__law_right => k_is)
    (case a_law => k_is)
    (case l_law => k_is)
    (case c_law => k_is)
    (case k_law => k_is)
    (case b_enumerate => k_is)
    (case b_int => k_is)
    (case b_isinstance => k_is)
    (case b_len => k_is)
    (case b_list => k_is)
    (case b_min => k_is)
    (case b_range => k_is)
    (case b_repr => k_is)
    (case sup => k_is)
    (case tpa => k_is)
    (case cn => k_is)
    (case ctk => k_is)
    (case xi_ShareError => first | k_exc | k_is | kx_is)
    (case cl_ShareError => k_is)
    (case no_ShareError => k_is)
    (case hd_ShareError => k_is)
    (case kC_ShareError => k_is)
    (case ex_ShareError => k_is)
    (case ty_ShareError => k_is)
    (case ga_ShareError => k_is)
    (case gg_ShareError => k_is)
    (case ca_ShareError => k_is)
    (case cm_ShareError => k_is)
    (case i_BadRule => k_is)
    (case L_BadRule => k_is)
    (case qi_BadRule => kx_is)
    (case qo_BadRule => kx_is)
    (case sB_BadRule => k_is)
    (case su_BadRule => ks_is)
    (case mr_BadRule => k_is)
    (case cl_BadRule => k_is)
    (case cd_BadRule => k_is)
    (case lc_BadRule => k_is)
    (case hv_BadRule => rfl)
    (case hf_BadRule => first | rfl | decide +kernel)
    (case lcc_BadRule => k_is)
    (case hq_BadRule => rfl)
    (case tC_BadRule => k_is)
    (case sa_BadRule => k_is)
    (case no_BadRule => k_is)
    (case hd_BadRule => k_is)
    (case kC_BadRule => k_is)
    (case ex_BadRule => k_is)
    (case ty_BadRule => k_is)
    (case ga_BadRule => k_is)
    (case gg_BadRule => k_is)
    (case ca_BadRule => k_is)
    (case cm_BadRule => k_is)
    (case i_BadJourney => k_is)
    (case L_BadJourney => k_is)
    (case qi_BadJourney => kx_is)
    (case qo_BadJourney => kx_is)
    (case sB_BadJourney => k_is)
    (case su_BadJourney => ks_is)
    (case mr_BadJourney => k_is)
    (case cl_BadJourney => k_is)
    (case cd_BadJourney => k_is)
    (case lc_BadJourney => k_is)
    (case hv_BadJourney => rfl)
    (case hf_BadJourney => first | rfl | decide +kernel)
    (case lcc_BadJourney => k_is)
    (case hq_BadJourney => rfl)
    (case tC_BadJourney => k_is)
    (case sa_BadJourney => k_is)
    (case no_BadJourney => k_is)
    (case hd_BadJourney => k_is)
    (case kC_BadJourney => k_is)
    (case ex_BadJourney => k_is)
    (case ty_BadJourney => k_is)
    (case ga_BadJourney => k_is)
    (case gg_BadJourney => k_is)
    (case ca_BadJourney => k_is)
    (case cm_BadJourney => k_is)
    (case i_BadKind => k_is)
    (case L_BadKind => k_is)
    (case qi_BadKind => kx_is)
    (case qo_BadKind => kx_is)
    (case sB_BadKind => k_is)
    (case su_BadKind => ks_is)
    (case mr_BadKind => k_is)
    (case cl_BadKind => k_is)
    (case cd_BadKind => k_is)
    (case lc_BadKind => k_is)
    (case hv_BadKind => rfl)
    (case hf_BadKind => first | rfl | decide +kernel)
    (case lcc_BadKind => k_is)
    (case hq_BadKind => rfl)
    (case tC_BadKind => k_is)
    (case sa_BadKind => k_is)
    (case no_BadKind => k_is)
    (case hd_BadKind => k_is)
    (case kC_BadKind => k_is)
    (case ex_BadKind => k_is)
    (case ty_BadKind => k_is)
    (case ga_BadKind => k_is)
    (case gg_BadKind => k_is)
    (case ca_BadKind => k_is)
    (case cm_BadKind => k_is)
    (case i_BadNumber => k_is)
    (case L_BadNumber => k_is)
    (case qi_BadNumber => kx_is)
    (case qo_BadNumber => kx_is)
    (case sB_BadNumber => k_is)
    (case su_BadNumber => ks_is)
    (case mr_BadNumber => k_is)
    (case cl_BadNumber => k_is)
    (case cd_BadNumber => k_is)
    (case lc_BadNumber => k_is)
    (case hv_BadNumber => rfl)
    (case hf_BadNumber => first | rfl | decide +kernel)
    (case lcc_BadNumber => k_is)
    (case hq_BadNumber => rfl)
    (case tC_BadNumber => k_is)
    (case sa_BadNumber => k_is)
    (case no_BadNumber => k_is)
    (case hd_BadNumber => k_is)
    (case kC_BadNumber => k_is)
    (case ex_BadNumber => k_is)
    (case ty_BadNumber => k_is)
    (case ga_BadNumber => k_is)
    (case gg_BadNumber => k_is)
    (case ca_BadNumber => k_is)
    (case cm_BadNumber => k_is)
    (case i_BadStanding => k_is)
    (case L_BadStanding => k_is)
    (case qi_BadStanding => kx_is)
    (case qo_BadStanding => kx_is)
    (case sB_BadStanding => k_is)
    (case su_BadStanding => ks_is)
    (case mr_BadStanding => k_is)
    (case cl_BadStanding => k_is)
    (case cd_BadStanding => k_is)
    (case lc_BadStanding => k_is)
    (case hv_BadStanding => rfl)
    (case hf_BadStanding => first | rfl | decide +kernel)
    (case lcc_BadStanding => k_is)
    (case hq_BadStanding => rfl)
    (case tC_BadStanding => k_is)
    (case sa_BadStanding => k_is)
    (case no_BadStanding => k_is)
    (case hd_BadStanding => k_is)
    (case kC_BadStanding => k_is)
    (case ex_BadStanding => k_is)
    (case ty_BadStanding => k_is)
    (case ga_BadStanding => k_is)
    (case gg_BadStanding => k_is)
    (case ca_BadStanding => k_is)
    (case cm_BadStanding => k_is)
    (case i_BadFraction => k_is)
    (case L_BadFraction => k_is)
    (case qi_BadFraction => kx_is)
    (case qo_BadFraction => kx_is)
    (case sB_BadFraction => k_is)
    (case su_BadFraction => ks_is)
    (case mr_BadFraction => k_is)
    (case cl_BadFraction => k_is)
    (case cd_BadFraction => k_is)
    (case lc_BadFraction => k_is)
    (case hv_BadFraction => rfl)
    (case hf_BadFraction => first | rfl | decide +kernel)
    (case lcc_BadFraction => k_is)
    (case hq_BadFraction => rfl)
    (case tC_BadFraction => k_is)
    (case sa_BadFraction => k_is)
    (case no_BadFraction => k_is)
    (case hd_BadFraction => k_is)
    (case kC_BadFraction => k_is)
    (case ex_BadFraction => k_is)
    (case ty_BadFraction => k_is)
    (case ga_BadFraction => k_is)
    (case gg_BadFraction => k_is)
    (case ca_BadFraction => k_is)
    (case cm_BadFraction => k_is)
    (case i_BadPaper => k_is)
    (case L_BadPaper => k_is)
    (case qi_BadPaper => kx_is)
    (case qo_BadPaper => kx_is)
    (case sB_BadPaper => k_is)
    (case su_BadPaper => ks_is)
    (case mr_BadPaper => k_is)
    (case cl_BadPaper => k_is)
    (case cd_BadPaper => k_is)
    (case lc_BadPaper => k_is)
    (case hv_BadPaper => rfl)
    (case hf_BadPaper => first | rfl | decide +kernel)
    (case lcc_BadPaper => k_is)
    (case hq_BadPaper => rfl)
    (case tC_BadPaper => k_is)
    (case sa_BadPaper => k_is)
    (case no_BadPaper => k_is)
    (case hd_BadPaper => k_is)
    (case kC_BadPaper => k_is)
    (case ex_BadPaper => k_is)
    (case ty_BadPaper => k_is)
    (case ga_BadPaper => k_is)
    (case gg_BadPaper => k_is)
    (case ca_BadPaper => k_is)
    (case cm_BadPaper => k_is)
    (case i_BadText => k_is)
    (case L_BadText => k_is)
    (case qi_BadText => kx_is)
    (case qo_BadText => kx_is)
    (case sB_BadText => k_is)
    (case su_BadText => ks_is)
    (case mr_BadText => k_is)
    (case cl_BadText => k_is)
    (case cd_BadText => k_is)
    (case lc_BadText => k_is)
    (case hv_BadText => rfl)
    (case hf_BadText => first | rfl | decide +kernel)
    (case lcc_BadText => k_is)
    (case hq_BadText => rfl)
    (case tC_BadText => k_is)
    (case sa_BadText => k_is)
    (case no_BadText => k_is)
    (case hd_BadText => k_is)
    (case kC_BadText => k_is)
    (case ex_BadText => k_is)
    (case ty_BadText => k_is)
    (case ga_BadText => k_is)
    (case gg_BadText => k_is)
    (case ca_BadText => k_is)
    (case cm_BadText => k_is)
    (case i_BadDeed => k_is)
    (case L_BadDeed => k_is)
    (case qi_BadDeed => kx_is)
    (case qo_BadDeed => kx_is)
    (case sB_BadDeed => k_is)
    (case su_BadDeed => ks_is)
    (case mr_BadDeed => k_is)
    (case cl_BadDeed => k_is)
    (case cd_BadDeed => k_is)
    (case lc_BadDeed => k_is)
    (case hv_BadDeed => rfl)
    (case hf_BadDeed => first | rfl | decide +kernel)
    (case lcc_BadDeed => k_is)
    (case hq_BadDeed => rfl)
    (case tC_BadDeed => k_is)
    (case sa_BadDeed => k_is)
    (case no_BadDeed => k_is)
    (case hd_BadDeed => k_is)
    (case kC_BadDeed => k_is)
    (case ex_BadDeed => k_is)
    (case ty_BadDeed => k_is)
    (case ga_BadDeed => k_is)
    (case gg_BadDeed => k_is)
    (case ca_BadDeed => k_is)
    (case cm_BadDeed => k_is)
    (case i_BadMenu => k_is)
    (case L_BadMenu => k_is)
    (case qi_BadMenu => kx_is)
    (case qo_BadMenu => kx_is)
    (case sB_BadMenu => k_is)
    (case su_BadMenu => ks_is)
    (case mr_BadMenu => k_is)
    (case cl_BadMenu => k_is)
    (case cd_BadMenu => k_is)
    (case lc_BadMenu => k_is)
    (case hv_BadMenu => rfl)
    (case hf_BadMenu => first | rfl | decide +kernel)
    (case lcc_BadMenu => k_is)
    (case hq_BadMenu => rfl)
    (case tC_BadMenu => k_is)
    (case sa_BadMenu => k_is)
    (case no_BadMenu => k_is)
    (case hd_BadMenu => k_is)
    (case kC_BadMenu => k_is)
    (case ex_BadMenu => k_is)
    (case ty_BadMenu => k_is)
    (case ga_BadMenu => k_is)
    (case gg_BadMenu => k_is)
    (case ca_BadMenu => k_is)
    (case cm_BadMenu => k_is)
    (case i_BadPaid => k_is)
    (case L_BadPaid => k_is)
    (case qi_BadPaid => kx_is)
    (case qo_BadPaid => kx_is)
    (case sB_BadPaid => k_is)
    (case su_BadPaid => ks_is)
    (case mr_BadPaid => k_is)
    (case cl_BadPaid => k_is)
    (case cd_BadPaid => k_is)
    (case lc_BadPaid => k_is)
    (case hv_BadPaid => rfl)
    (case hf_BadPaid => first | rfl | decide +kernel)
    (case lcc_BadPaid => k_is)
    (case hq_BadPaid => rfl)
    (case tC_BadPaid => k_is)
    (case sa_BadPaid => k_is)
    (case no_BadPaid => k_is)
    (case hd_BadPaid => k_is)
    (case kC_BadPaid => k_is)
    (case ex_BadPaid => k_is)
    (case ty_BadPaid => k_is)
    (case ga_BadPaid => k_is)
    (case gg_BadPaid => k_is)
    (case ca_BadPaid => k_is)
    (case cm_BadPaid => k_is)
    (case i_BadWishes => k_is)
    (case L_BadWishes => k_is)
    (case qi_BadWishes => kx_is)
    (case qo_BadWishes => kx_is)
    (case sB_BadWishes => k_is)
    (case su_BadWishes => ks_is)
    (case mr_BadWishes => k_is)
    (case cl_BadWishes => k_is)
    (case cd_BadWishes => k_is)
    (case lc_BadWishes => k_is)
    (case hv_BadWishes => rfl)
    (case hf_BadWishes => first | rfl | decide +kernel)
    (case lcc_BadWishes => k_is)
    (case hq_BadWishes => rfl)
    (case tC_BadWishes => k_is)
    (case sa_BadWishes => k_is)
    (case no_BadWishes => k_is)
    (case hd_BadWishes => k_is)
    (case kC_BadWishes => k_is)
    (case ex_BadWishes => k_is)
    (case ty_BadWishes => k_is)
    (case ga_BadWishes => k_is)
    (case gg_BadWishes => k_is)
    (case ca_BadWishes => k_is)
    (case cm_BadWishes => k_is)
    (case i_TooGreat => k_is)
    (case L_TooGreat => k_is)
    (case qi_TooGreat => kx_is)
    (case qo_TooGreat => kx_is)
    (case sB_TooGreat => k_is)
    (case su_TooGreat => ks_is)
    (case mr_TooGreat => k_is)
    (case cl_TooGreat => k_is)
    (case cd_TooGreat => k_is)
    (case lc_TooGreat => k_is)
    (case hv_TooGreat => rfl)
    (case hf_TooGreat => first | rfl | decide +kernel)
    (case lcc_TooGreat => k_is)
    (case hq_TooGreat => rfl)
    (case tC_TooGreat => k_is)
    (case sa_TooGreat => k_is)
    (case no_TooGreat => k_is)
    (case hd_TooGreat => k_is)
    (case kC_TooGreat => k_is)
    (case ex_TooGreat => k_is)
    (case ty_TooGreat => k_is)
    (case ga_TooGreat => k_is)
    (case gg_TooGreat => k_is)
    (case ca_TooGreat => k_is)
    (case cm_TooGreat => k_is)
    (case i_Nothing => k_is)
    (case L_Nothing => k_is)
    (case qi_Nothing => kx_is)
    (case qo_Nothing => kx_is)
    (case sB_Nothing => k_is)
    (case su_Nothing => ks_is)
    (case mr_Nothing => k_is)
    (case cl_Nothing => k_is)
    (case cd_Nothing => k_is)
    (case lc_Nothing => k_is)
    (case hv_Nothing => rfl)
    (case hf_Nothing => first | rfl | decide +kernel)
    (case lcc_Nothing => k_is)
    (case hq_Nothing => rfl)
    (case tC_Nothing => k_is)
    (case sa_Nothing => k_is)
    (case no_Nothing => k_is)
    (case hd_Nothing => k_is)
    (case kC_Nothing => k_is)
    (case ex_Nothing => k_is)
    (case ty_Nothing => k_is)
    (case ga_Nothing => k_is)
    (case gg_Nothing => k_is)
    (case ca_Nothing => k_is)
    (case cm_Nothing => k_is)
    (case t_BadRule_14 => kit_is)
    (case t_BadRule_13 => kit_is)
    (case t_BadRule_12 => kit_is)
    (case t_BadRule_11 => kit_is)
    (case t_BadRule_10 => kit_is)
    (case t_BadRule_9 => kit_is)
    (case t_BadRule_8 => kit_is)
    (case t_BadRule_7 => kit_is)
    (case t_BadRule_6 => kit_is)
    (case t_BadRule_5 => kit_is)
    (case t_BadRule_4 => kit_is)
    (case t_BadRule_3 => kit_is)
    (case t_BadRule_2 => kit_is)
    (case t_BadRule_1 => kit_is)
    (case t_BadRule_0 => kit_is)
    (case t_BadPaper_14 => kit_is)
    (case t_BadPaper_13 => kit_is)
    (case t_BadPaper_12 => kit_is)
    (case t_BadPaper_11 => kit_is)
    (case t_BadPaper_10 => kit_is)
    (case t_BadPaper_9 => kit_is)
    (case t_BadPaper_8 => kit_is)
    (case t_BadPaper_7 => kit_is)
    (case t_BadPaper_6 => kit_is)
    (case t_BadPaper_5 => kit_is)
    (case t_BadPaper_4 => kit_is)
    (case t_BadPaper_3 => kit_is)
    (case t_BadPaper_2 => kit_is)
    (case t_BadPaper_1 => kit_is)
    (case t_BadPaper_0 => kit_is)
    (case t_BadKind_14 => kit_is)
    (case t_BadKind_13 => kit_is)
    (case t_BadKind_12 => kit_is)
    (case t_BadKind_11 => kit_is)
    (case t_BadKind_10 => kit_is)
    (case t_BadKind_9 => kit_is)
    (case t_BadKind_8 => kit_is)
    (case t_BadKind_7 => kit_is)
    (case t_BadKind_6 => kit_is)
    (case t_BadKind_5 => kit_is)
    (case t_BadKind_4 => kit_is)
    (case t_BadKind_3 => kit_is)
    (case t_BadKind_2 => kit_is)
    (case t_BadKind_1 => kit_is)
    (case t_BadKind_0 => kit_is)
    (case t_BadNumber_14 => kit_is)
    (case t_BadNumber_13 => kit_is)
    (case t_BadNumber_12 => kit_is)
    (case t_BadNumber_11 => kit_is)
    (case t_BadNumber_10 => kit_is)
    (case t_BadNumber_9 => kit_is)
    (case t_BadNumber_8 => kit_is)
    (case t_BadNumber_7 => kit_is)
    (case t_BadNumber_6 => kit_is)
    (case t_BadNumber_5 => kit_is)
    (case t_BadNumber_4 => kit_is)
    (case t_BadNumber_3 => kit_is)
    (case t_BadNumber_2 => kit_is)
    (case t_BadNumber_1 => kit_is)
    (case t_BadNumber_0 => kit_is)
    (case t_BadStanding_14 => kit_is)
    (case t_BadStanding_13 => kit_is)
    (case t_BadStanding_12 => kit_is)
    (case t_BadStanding_11 => kit_is)
    (case t_BadStanding_10 => kit_is)
    (case t_BadStanding_9 => kit_is)
    (case t_BadStanding_8 => kit_is)
    (case t_BadStanding_7 => kit_is)
    (case t_BadStanding_6 => kit_is)
    (case t_BadStanding_5 => kit_is)
    (case t_BadStanding_4 => kit_is)
    (case t_BadStanding_3 => kit_is)
    (case t_BadStanding_2 => kit_is)
    (case t_BadStanding_1 => kit_is)
    (case t_BadStanding_0 => kit_is)
    (case t_BadFraction_14 => kit_is)
    (case t_BadFraction_13 => kit_is)
    (case t_BadFraction_12 => kit_is)
    (case t_BadFraction_11 => kit_is)
    (case t_BadFraction_10 => kit_is)
    (case t_BadFraction_9 => kit_is)
    (case t_BadFraction_8 => kit_is)
    (case t_BadFraction_7 => kit_is)
    (case t_BadFraction_6 => kit_is)
    (case t_BadFraction_5 => kit_is)
    (case t_BadFraction_4 => kit_is)
    (case t_BadFraction_3 => kit_is)
    (case t_BadFraction_2 => kit_is)
    (case t_BadFraction_1 => kit_is)
    (case t_BadFraction_0 => kit_is)
    (case t_BadDeed_14 => kit_is)
    (case t_BadDeed_13 => kit_is)
    (case t_BadDeed_12 => kit_is)
    (case t_BadDeed_11 => kit_is)
    (case t_BadDeed_10 => kit_is)
    (case t_BadDeed_9 => kit_is)
    (case t_BadDeed_8 => kit_is)
    (case t_BadDeed_7 => kit_is)
    (case t_BadDeed_6 => kit_is)
    (case t_BadDeed_5 => kit_is)
    (case t_BadDeed_4 => kit_is)
    (case t_BadDeed_3 => kit_is)
    (case t_BadDeed_2 => kit_is)
    (case t_BadDeed_1 => kit_is)
    (case t_BadDeed_0 => kit_is)
    (case t_BadWishes_14 => kit_is)
    (case t_BadWishes_13 => kit_is)
    (case t_BadWishes_12 => kit_is)
    (case t_BadWishes_11 => kit_is)
    (case t_BadWishes_10 => kit_is)
    (case t_BadWishes_9 => kit_is)
    (case t_BadWishes_8 => kit_is)
    (case t_BadWishes_7 => kit_is)
    (case t_BadWishes_6 => kit_is)
    (case t_BadWishes_5 => kit_is)
    (case t_BadWishes_4 => kit_is)
    (case t_BadWishes_3 => kit_is)
    (case t_BadWishes_2 => kit_is)
    (case t_BadWishes_1 => kit_is)
    (case t_BadWishes_0 => kit_is)
    (case t_Nothing_14 => kit_is)
    (case t_Nothing_13 => kit_is)
    (case t_Nothing_12 => kit_is)
    (case t_Nothing_11 => kit_is)
    (case t_Nothing_10 => kit_is)
    (case t_Nothing_9 => kit_is)
    (case t_Nothing_8 => kit_is)
    (case t_Nothing_7 => kit_is)
    (case t_Nothing_6 => kit_is)
    (case t_Nothing_5 => kit_is)
    (case t_Nothing_4 => kit_is)
    (case t_Nothing_3 => kit_is)
    (case t_Nothing_2 => kit_is)
    (case t_Nothing_1 => kit_is)
    (case t_Nothing_0 => kit_is)
    (case t_BadJourney_14 => kit_is)
    (case t_BadJourney_13 => kit_is)
    (case t_BadJourney_12 => kit_is)
    (case t_BadJourney_11 => kit_is)
    (case t_BadJourney_10 => kit_is)
    (case t_BadJourney_9 => kit_is)
    (case t_BadJourney_8 => kit_is)
    (case t_BadJourney_7 => kit_is)
    (case t_BadJourney_6 => kit_is)
    (case t_BadJourney_5 => kit_is)
    (case t_BadJourney_4 => kit_is)
    (case t_BadJourney_3 => kit_is)
    (case t_BadJourney_2 => kit_is)
    (case t_BadJourney_1 => kit_is)
    (case t_BadJourney_0 => kit_is)
    (case t_BadMenu_14 => kit_is)
    (case t_BadMenu_13 => kit_is)
    (case t_BadMenu_12 => kit_is)
    (case t_BadMenu_11 => kit_is)
    (case t_BadMenu_10 => kit_is)
    (case t_BadMenu_9 => kit_is)
    (case t_BadMenu_8 => kit_is)
    (case t_BadMenu_7 => kit_is)
    (case t_BadMenu_6 => kit_is)
    (case t_BadMenu_5 => kit_is)
    (case t_BadMenu_4 => kit_is)
    (case t_BadMenu_3 => kit_is)
    (case t_BadMenu_2 => kit_is)
    (case t_BadMenu_1 => kit_is)
    (case t_BadMenu_0 => kit_is)
    (case t_BadPaid_14 => kit_is)
    (case t_BadPaid_13 => kit_is)
    (case t_BadPaid_12 => kit_is)
    (case t_BadPaid_11 => kit_is)
    (case t_BadPaid_10 => kit_is)
    (case t_BadPaid_9 => kit_is)
    (case t_BadPaid_8 => kit_is)
    (case t_BadPaid_7 => kit_is)
    (case t_BadPaid_6 => kit_is)
    (case t_BadPaid_5 => kit_is)
    (case t_BadPaid_4 => kit_is)
    (case t_BadPaid_3 => kit_is)
    (case t_BadPaid_2 => kit_is)
    (case t_BadPaid_1 => kit_is)
    (case t_BadPaid_0 => kit_is)
    (case t_BadText_14 => kit_is)
    (case t_BadText_13 => kit_is)
    (case t_BadText_12 => kit_is)
    (case t_BadText_11 => kit_is)
    (case t_BadText_10 => kit_is)
    (case t_BadText_9 => kit_is)
    (case t_BadText_8 => kit_is)
    (case t_BadText_7 => kit_is)
    (case t_BadText_6 => kit_is)
    (case t_BadText_5 => kit_is)
    (case t_BadText_4 => kit_is)
    (case t_BadText_3 => kit_is)
    (case t_BadText_2 => kit_is)
    (case t_BadText_1 => kit_is)
    (case t_BadText_0 => kit_is)
    (case t_TooGreat_14 => kit_is)
    (case t_TooGreat_13 => kit_is)
    (case t_TooGreat_12 => kit_is)
    (case t_TooGreat_11 => kit_is)
    (case t_TooGreat_10 => kit_is)
    (case t_TooGreat_9 => kit_is)
    (case t_TooGreat_8 => kit_is)
    (case t_TooGreat_7 => kit_is)
    (case t_TooGreat_6 => kit_is)
    (case t_TooGreat_5 => kit_is)
    (case t_TooGreat_4 => kit_is)
    (case t_TooGreat_3 => kit_is)
    (case t_TooGreat_2 => kit_is)
    (case t_TooGreat_1 => kit_is)
    (case t_TooGreat_0 => kit_is)
    (case t_ShareError_14 => kit_is)
    (case t_ShareError_13 => kit_is)
    (case t_ShareError_12 => kit_is)
    (case t_ShareError_11 => kit_is)
    (case t_ShareError_10 => kit_is)
    (case t_ShareError_9 => kit_is)
    (case t_ShareError_8 => kit_is)
    (case t_ShareError_7 => kit_is)
    (case t_ShareError_6 => kit_is)
    (case t_ShareError_5 => kit_is)
    (case t_ShareError_4 => kit_is)
    (case t_ShareError_3 => kit_is)
    (case t_ShareError_2 => kit_is)
    (case t_ShareError_1 => kit_is)
    (case t_ShareError_0 => kit_is)
    (case t_ValueError_14 => kit_is)
    (case t_ValueError_13 => kit_is)
    (case t_ValueError_12 => kit_is)
    (case t_ValueError_11 => kit_is)
    (case t_ValueError_10 => kit_is)
    (case t_ValueError_9 => kit_is)
    (case t_ValueError_8 => kit_is)
    (case t_ValueError_7 => kit_is)
    (case t_ValueError_6 => kit_is)
    (case t_ValueError_5 => kit_is)
    (case t_ValueError_4 => kit_is)
    (case t_ValueError_3 => kit_is)
    (case t_ValueError_2 => kit_is)
    (case t_ValueError_1 => kit_is)
    (case t_ValueError_0 => kit_is)
    (case z_ValueError => k_is)
    (case t_LookupError_14 => kit_is)
    (case t_LookupError_13 => kit_is)
    (case t_LookupError_12 => kit_is)
    (case t_LookupError_11 => kit_is)
    (case t_LookupError_10 => kit_is)
    (case t_LookupError_9 => kit_is)
    (case t_LookupError_8 => kit_is)
    (case t_LookupError_7 => kit_is)
    (case t_LookupError_6 => kit_is)
    (case t_LookupError_5 => kit_is)
    (case t_LookupError_4 => kit_is)
    (case t_LookupError_3 => kit_is)
    (case t_LookupError_2 => kit_is)
    (case t_LookupError_1 => kit_is)
    (case t_LookupError_0 => kit_is)
    (case z_LookupError => k_is)
    (case t_OverflowError_14 => kit_is)
    (case t_OverflowError_13 => kit_is)
    (case t_OverflowError_12 => kit_is)
    (case t_OverflowError_11 => kit_is)
    (case t_OverflowError_10 => kit_is)
    (case t_OverflowError_9 => kit_is)
    (case t_OverflowError_8 => kit_is)
    (case t_OverflowError_7 => kit_is)
    (case t_OverflowError_6 => kit_is)
    (case t_OverflowError_5 => kit_is)
    (case t_OverflowError_4 => kit_is)
    (case t_OverflowError_3 => kit_is)
    (case t_OverflowError_2 => kit_is)
    (case t_OverflowError_1 => kit_is)
    (case t_OverflowError_0 => kit_is)
    (case z_OverflowError => k_is)
    (case t_TypeError_14 => kit_is)
    (case t_TypeError_13 => kit_is)
    (case t_TypeError_12 => kit_is)
    (case t_TypeError_11 => kit_is)
    (case t_TypeError_10 => kit_is)
    (case t_TypeError_9 => kit_is)
    (case t_TypeError_8 => kit_is)
    (case t_TypeError_7 => kit_is)
    (case t_TypeError_6 => kit_is)
    (case t_TypeError_5 => kit_is)
    (case t_TypeError_4 => kit_is)
    (case t_TypeError_3 => kit_is)
    (case t_TypeError_2 => kit_is)
    (case t_TypeError_1 => kit_is)
    (case t_TypeError_0 => kit_is)
    (case z_TypeError => k_is)
    (case s_ShareError_0 => k_is)
    (case s_ShareError_1 => k_is)
    (case s_ShareError_2 => k_is)
    (case s_ShareError_3 => k_is)
    (case s_ShareError_4 => k_is)
    (case s_ShareError_5 => k_is)
    (case s_ShareError_6 => k_is)
    (case s_ShareError_7 => k_is)
    (case s_ShareError_8 => k_is)
    (case s_ShareError_9 => k_is)
    (case s_ShareError_10 => k_is)
    (case s_ShareError_11 => k_is)
    (case s_ShareError_12 => k_is)
    (case s_ShareError_13 => k_is)
    (case s_ShareError_14 => k_is)

